/- InvertKinds, for every input: it returns true, and its argument reads behind the call as it did: just those operations can be turned that set no cell, and read none in a statement. No condition. -/
import Derived.Test.YtagkbbcpbebapaaIcr
import Derived.Test.YtagkbbcpbebapaaQ13r
import Derived.Test.YtagkbbcpbebapaaWar
import Derived.Test.YtagkbbcpbebapaaZgr
import Derived.ChangeMaps5
namespace Go.Proofs.Ytagkbbcpbebapaa
open Go.ChangeShapes Go.WideShapes Go.ChangeAt Go.RowKit Go.Maps
set_option linter.unusedVariables false
set_option linter.unusedSimpArgs false
theorem DV.partsT {w:World} {B:Nat→Prop} {d:Df} {u v1 v2 v3 v4:Value} (h:DV w B d [u,v1,v2,v3,v4]):SsV w B v3 d.body:=by
 obtain ⟨x1,x2,x3,x4,e,h1,h2,h3,h4⟩:=h
 cases e
 exact h3
theorem okT_parts {d:Df} (hw:Whole d) (hp:pB d.body) {i:InfoR} {c p:Int} (h:chkD d=(i,c,p)):okT d=(c == 0 && (!hasB 2 2 d.body && !readB d.body)):=by
 unfold okT
 rw [h]
 unfold chkD at h
 cases hf:(opS CS.new d).flt with
 | none=>
  rw [hf] at h
  obtain ⟨i1,-,-⟩:=info_of hw hp hf
  injection h with h1 h2
  rw [i1] at h1
  rw [← h1]
 | some x=>
  obtain ⟨cc,pp⟩:=x
  rw [hf] at h
  injection h with h1 h2
  injection h2 with h3 h4
  have hc:cc≠0:=code_ne hw hf
  rw [← h3,← h1]
  have:(cc == 0)=false:=by simpa using hc
  rw [this]
  rfl
set_option maxRecDepth 100000 in
set_option maxHeartbeats 16000000 in
theorem ikinds_walk (s1:ByteArray) (w:World) (hs1:s1.size≤maxLen) :
  Calls Try.prog 7 #[.string s1] w fun e w'=>e=.returned (.bool true)∧Only [] w w':=by
 have hs1':s1.size≤9223372036854775807:=by unfold maxLen at hs1;omega
 clear hs1
 go_enter Try.func7,Try.ntmps7
 go_wp2_with fail
 refine (alive10_any w).mono ?_
 rintro e w0 ⟨rfl,o0⟩
 have HO:=Hd o0
 clear o0
 obtain ⟨R1,hR⟩:∃ R,R=parseS s1.data.toList:=⟨_,rfl⟩
 have K1:=parsed_any s1 w0 hs1'
 rw [← hR] at K1
 have HR1:=Hd hR
 clear hR
 go_wp2_with fail
 refine K1.mono ?_
 rintro e w0a ⟨sn1,a11,a21,a31,a41,l11,l21,l31,l41,c11,c21,c31,c41,rfl,hok,o1⟩
 replace HO:=Hd (HO.out.trans o1 (by simp))
 (try replace HX1:=Hd (o1.heap HX1.out (by simp)))
 (try replace HX2:=Hd (o1.heap HX2.out (by simp)))
 (try replace HOK1:=Hd (fun d h=>(HOK1.out d h).kept o1 (by simp) (fun _ h=>h)))
 (try replace HOK2:=Hd (fun d h=>(HOK2.out d h).kept o1 (by simp) (fun _ h=>h)))
 (try replace HDV1:=Hd (HDV1.out.kept o1 (by simp) (fun _ h=>h)))
 (try replace HDV2:=Hd (HDV2.out.kept o1 (by simp) (fun _ h=>h)))
 (try replace HDV3:=Hd (HDV3.out.kept o1 (by simp) (fun _ h=>h)))
 (try replace HDV4:=Hd (HDV4.out.kept o1 (by simp) (fun _ h=>h)))
 (try replace HA1:=Hd (o1.heap HA1.out (by simp)))
 (try replace HA2:=Hd (o1.heap HA2.out (by simp)))
 (try replace HA3:=Hd (o1.heap HA3.out (by simp)))
 (try replace HA4:=Hd (o1.heap HA4.out (by simp)))
 (try replace HI1:=Hd (o1.heap HI1.out (by simp)))
 (try replace HI2:=Hd (o1.heap HI2.out (by simp)))
 (try replace HP1:=Hd (HP1.out.kept o1 (by simp)))
 (try replace HP2:=Hd (HP2.out.kept o1 (by simp)))
 (try replace HP3:=Hd (HP3.out.kept o1 (by simp)))
 (try replace HP4:=Hd (HP4.out.kept o1 (by simp)))
 (try replace HP5:=Hd (HP5.out.kept o1 (by simp)))
 have HOK1:=Hd hok
 clear K1 o1 hok
 go_upto_region 4 with (fail)
 have oA:=(Only.refl [] w0a).alloc (.cells #[.string sn1,.slice a11 l11 c11,.slice a21 l21 c21,.slice a31 l31 c31,.slice a41 l41 c41] 27)
 have hA:=heap_new w0a (.cells #[.string sn1,.slice a11 l11 c11,.slice a21 l21 c21,.slice a31 l31 c31,.slice a41 l41 c41] 27)
 obtain ⟨gd1,hgd⟩:∃ g,g=w0a.heap.size:=⟨_,rfl⟩
 rw [← hgd] at hA⊢
 generalize w0a.alloc (.cells #[.string sn1,.slice a11 l11 c11,.slice a21 l21 c21,.slice a31 l31 c31,.slice a41 l41 c41] 27)=w1 at oA hA⊢
 replace HO:=Hd (HO.out.trans oA (by simp))
 (try replace HX1:=Hd (oA.heap HX1.out (by simp)))
 (try replace HX2:=Hd (oA.heap HX2.out (by simp)))
 (try replace HOK1:=Hd (fun d h=>(HOK1.out d h).kept oA (by simp) (fun _ h=>h)))
 (try replace HOK2:=Hd (fun d h=>(HOK2.out d h).kept oA (by simp) (fun _ h=>h)))
 (try replace HDV1:=Hd (HDV1.out.kept oA (by simp) (fun _ h=>h)))
 (try replace HDV2:=Hd (HDV2.out.kept oA (by simp) (fun _ h=>h)))
 (try replace HDV3:=Hd (HDV3.out.kept oA (by simp) (fun _ h=>h)))
 (try replace HDV4:=Hd (HDV4.out.kept oA (by simp) (fun _ h=>h)))
 (try replace HA1:=Hd (oA.heap HA1.out (by simp)))
 (try replace HA2:=Hd (oA.heap HA2.out (by simp)))
 (try replace HA3:=Hd (oA.heap HA3.out (by simp)))
 (try replace HA4:=Hd (oA.heap HA4.out (by simp)))
 (try replace HI1:=Hd (oA.heap HI1.out (by simp)))
 (try replace HI2:=Hd (oA.heap HI2.out (by simp)))
 (try replace HP1:=Hd (HP1.out.kept oA (by simp)))
 (try replace HP2:=Hd (HP2.out.kept oA (by simp)))
 (try replace HP3:=Hd (HP3.out.kept oA (by simp)))
 (try replace HP4:=Hd (HP4.out.kept oA (by simp)))
 (try replace HP5:=Hd (HP5.out.kept oA (by simp)))
 have HA1:=Hd hA
 clear oA hA hgd
 cases R1 with
 | error q=>
  rw [show isOk (Except.error q:Except (Nat×Nat) Df)=false from rfl]
  go_wp2_with fail
  go_ret
  exact ⟨rfl,HO.out⟩
 | ok d1=>
  rw [show isOk (Except.ok d1:Except (Nat×Nat) Df)=true from rfl]
  have HDV1:=Hd (HOK1.out d1 rfl)
  have HWH1:=Hd (parse_whole HR1.out.symm)
  have HPL1:=Hd (parse_plain HR1.out.symm)
  have HGD1:=Hd (parse_good HR1.out.symm)
  clear HOK1 HR1
  go_upto_region 6 with (fail)
  have y0:w1.cell? ⟨gd1,0,none⟩=some (.string sn1):=cell_at 0 HA1.out
  have y1:w1.cell? ⟨gd1,1,none⟩=some (.slice a11 l11 c11):=cell_at 1 HA1.out
  have y2:w1.cell? ⟨gd1,2,none⟩=some (.slice a21 l21 c21):=cell_at 2 HA1.out
  have y3:w1.cell? ⟨gd1,3,none⟩=some (.slice a31 l31 c31):=cell_at 3 HA1.out
  have y4:w1.cell? ⟨gd1,4,none⟩=some (.slice a41 l41 c41):=cell_at 4 HA1.out
  have K3:=rcheck_any HDV1.out HWH1.out HPL1.out
  obtain ⟨i0,cf1,pf1,hi1⟩:∃ i c p,chkD d1=(i,c,p):=⟨_,_,_,rfl⟩
  have HPT:=Hd (okT_parts HWH1.out HPL1.out hi1)
  rw [hi1] at K3
  obtain ⟨im1,ist1,inn1,itu1⟩:=i0
  unfold infoV at K3
  dsimp only at K3
  obtain ⟨st1,hst⟩:∃ x:Int,x=ist1:=⟨_,rfl⟩
  obtain ⟨nm1,hnm⟩:∃ x:Int,x=inn1:=⟨_,rfl⟩
  rw [← hst,← hnm] at K3
  clear hi1 hst hnm
  go_wp2_with fail
  refine K3.mono ?_
  rintro e w1a ⟨rfl,o3⟩
  replace HO:=Hd (HO.out.trans o3 (by simp))
  (try replace HX1:=Hd (o3.heap HX1.out (by simp)))
  (try replace HX2:=Hd (o3.heap HX2.out (by simp)))
  (try replace HOK1:=Hd (fun d h=>(HOK1.out d h).kept o3 (by simp) (fun _ h=>h)))
  (try replace HOK2:=Hd (fun d h=>(HOK2.out d h).kept o3 (by simp) (fun _ h=>h)))
  (try replace HDV1:=Hd (HDV1.out.kept o3 (by simp) (fun _ h=>h)))
  (try replace HDV2:=Hd (HDV2.out.kept o3 (by simp) (fun _ h=>h)))
  (try replace HDV3:=Hd (HDV3.out.kept o3 (by simp) (fun _ h=>h)))
  (try replace HDV4:=Hd (HDV4.out.kept o3 (by simp) (fun _ h=>h)))
  (try replace HA1:=Hd (o3.heap HA1.out (by simp)))
  (try replace HA2:=Hd (o3.heap HA2.out (by simp)))
  (try replace HA3:=Hd (o3.heap HA3.out (by simp)))
  (try replace HA4:=Hd (o3.heap HA4.out (by simp)))
  (try replace HI1:=Hd (o3.heap HI1.out (by simp)))
  (try replace HI2:=Hd (o3.heap HI2.out (by simp)))
  (try replace HP1:=Hd (HP1.out.kept o3 (by simp)))
  (try replace HP2:=Hd (HP2.out.kept o3 (by simp)))
  (try replace HP3:=Hd (HP3.out.kept o3 (by simp)))
  (try replace HP4:=Hd (HP4.out.kept o3 (by simp)))
  (try replace HP5:=Hd (HP5.out.kept o3 (by simp)))
  clear K3 o3 y0 y1 y2 y3 y4
  go_upto_region 7 with (fail)
  have oA:=(Only.refl [] w1a).alloc (.cells #[.int .i64 im1,.int .i64 st1,.int .i64 nm1,.bool itu1] 51)
  generalize w1a.alloc (.cells #[.int .i64 im1,.int .i64 st1,.int .i64 nm1,.bool itu1] 51)=w2 at oA⊢
  replace HO:=Hd (HO.out.trans oA (by simp))
  (try replace HX1:=Hd (oA.heap HX1.out (by simp)))
  (try replace HX2:=Hd (oA.heap HX2.out (by simp)))
  (try replace HOK1:=Hd (fun d h=>(HOK1.out d h).kept oA (by simp) (fun _ h=>h)))
  (try replace HOK2:=Hd (fun d h=>(HOK2.out d h).kept oA (by simp) (fun _ h=>h)))
  (try replace HDV1:=Hd (HDV1.out.kept oA (by simp) (fun _ h=>h)))
  (try replace HDV2:=Hd (HDV2.out.kept oA (by simp) (fun _ h=>h)))
  (try replace HDV3:=Hd (HDV3.out.kept oA (by simp) (fun _ h=>h)))
  (try replace HDV4:=Hd (HDV4.out.kept oA (by simp) (fun _ h=>h)))
  (try replace HA1:=Hd (oA.heap HA1.out (by simp)))
  (try replace HA2:=Hd (oA.heap HA2.out (by simp)))
  (try replace HA3:=Hd (oA.heap HA3.out (by simp)))
  (try replace HA4:=Hd (oA.heap HA4.out (by simp)))
  (try replace HI1:=Hd (oA.heap HI1.out (by simp)))
  (try replace HI2:=Hd (oA.heap HI2.out (by simp)))
  (try replace HP1:=Hd (HP1.out.kept oA (by simp)))
  (try replace HP2:=Hd (HP2.out.kept oA (by simp)))
  (try replace HP3:=Hd (HP3.out.kept oA (by simp)))
  (try replace HP4:=Hd (HP4.out.kept oA (by simp)))
  (try replace HP5:=Hd (HP5.out.kept oA (by simp)))
  clear oA
  have y0:w2.cell? ⟨gd1,0,none⟩=some (.string sn1):=cell_at 0 HA1.out
  have y1:w2.cell? ⟨gd1,1,none⟩=some (.slice a11 l11 c11):=cell_at 1 HA1.out
  have y2:w2.cell? ⟨gd1,2,none⟩=some (.slice a21 l21 c21):=cell_at 2 HA1.out
  have y3:w2.cell? ⟨gd1,3,none⟩=some (.slice a31 l31 c31):=cell_at 3 HA1.out
  have y4:w2.cell? ⟨gd1,4,none⟩=some (.slice a41 l41 c41):=cell_at 4 HA1.out
  have KT:=iturn_any HDV1.out HWH1.out HPL1.out
  go_wp2_with fail
  refine KT.mono ?_
  rintro e w2a ⟨sn2,a12,a22,a32,a42,l12,l22,l32,l42,c12,c22,c32,c42,rfl,hdv,o1⟩
  replace HO:=Hd (HO.out.trans o1 (by simp))
  (try replace HX1:=Hd (o1.heap HX1.out (by simp)))
  (try replace HX2:=Hd (o1.heap HX2.out (by simp)))
  (try replace HOK1:=Hd (fun d h=>(HOK1.out d h).kept o1 (by simp) (fun _ h=>h)))
  (try replace HOK2:=Hd (fun d h=>(HOK2.out d h).kept o1 (by simp) (fun _ h=>h)))
  (try replace HDV1:=Hd (HDV1.out.kept o1 (by simp) (fun _ h=>h)))
  (try replace HDV2:=Hd (HDV2.out.kept o1 (by simp) (fun _ h=>h)))
  (try replace HDV3:=Hd (HDV3.out.kept o1 (by simp) (fun _ h=>h)))
  (try replace HDV4:=Hd (HDV4.out.kept o1 (by simp) (fun _ h=>h)))
  (try replace HA1:=Hd (o1.heap HA1.out (by simp)))
  (try replace HA2:=Hd (o1.heap HA2.out (by simp)))
  (try replace HA3:=Hd (o1.heap HA3.out (by simp)))
  (try replace HA4:=Hd (o1.heap HA4.out (by simp)))
  (try replace HI1:=Hd (o1.heap HI1.out (by simp)))
  (try replace HI2:=Hd (o1.heap HI2.out (by simp)))
  (try replace HP1:=Hd (HP1.out.kept o1 (by simp)))
  (try replace HP2:=Hd (HP2.out.kept o1 (by simp)))
  (try replace HP3:=Hd (HP3.out.kept o1 (by simp)))
  (try replace HP4:=Hd (HP4.out.kept o1 (by simp)))
  (try replace HP5:=Hd (HP5.out.kept o1 (by simp)))
  have HDV2:=Hd hdv
  obtain ⟨ev2,hev⟩:∃ v,v=(if okT d1=true then Value.nilIface else err 13):=⟨_,rfl⟩
  rw [← hev]
  have HEV2:=Hd hev
  clear KT hdv o1 y0 y1 y2 y3 y4 hev
  go_upto_region 8 with (fail)
  have oA:=(Only.refl [] w2a).alloc (.cells #[.string sn2,.slice a12 l12 c12,.slice a22 l22 c22,.slice a32 l32 c32,.slice a42 l42 c42] 27)
  have hA:=heap_new w2a (.cells #[.string sn2,.slice a12 l12 c12,.slice a22 l22 c22,.slice a32 l32 c32,.slice a42 l42 c42] 27)
  obtain ⟨gd2,hgd⟩:∃ g,g=w2a.heap.size:=⟨_,rfl⟩
  rw [← hgd] at hA⊢
  generalize w2a.alloc (.cells #[.string sn2,.slice a12 l12 c12,.slice a22 l22 c22,.slice a32 l32 c32,.slice a42 l42 c42] 27)=w3 at oA hA⊢
  replace HO:=Hd (HO.out.trans oA (by simp))
  (try replace HX1:=Hd (oA.heap HX1.out (by simp)))
  (try replace HX2:=Hd (oA.heap HX2.out (by simp)))
  (try replace HOK1:=Hd (fun d h=>(HOK1.out d h).kept oA (by simp) (fun _ h=>h)))
  (try replace HOK2:=Hd (fun d h=>(HOK2.out d h).kept oA (by simp) (fun _ h=>h)))
  (try replace HDV1:=Hd (HDV1.out.kept oA (by simp) (fun _ h=>h)))
  (try replace HDV2:=Hd (HDV2.out.kept oA (by simp) (fun _ h=>h)))
  (try replace HDV3:=Hd (HDV3.out.kept oA (by simp) (fun _ h=>h)))
  (try replace HDV4:=Hd (HDV4.out.kept oA (by simp) (fun _ h=>h)))
  (try replace HA1:=Hd (oA.heap HA1.out (by simp)))
  (try replace HA2:=Hd (oA.heap HA2.out (by simp)))
  (try replace HA3:=Hd (oA.heap HA3.out (by simp)))
  (try replace HA4:=Hd (oA.heap HA4.out (by simp)))
  (try replace HI1:=Hd (oA.heap HI1.out (by simp)))
  (try replace HI2:=Hd (oA.heap HI2.out (by simp)))
  (try replace HP1:=Hd (HP1.out.kept oA (by simp)))
  (try replace HP2:=Hd (HP2.out.kept oA (by simp)))
  (try replace HP3:=Hd (HP3.out.kept oA (by simp)))
  (try replace HP4:=Hd (HP4.out.kept oA (by simp)))
  (try replace HP5:=Hd (HP5.out.kept oA (by simp)))
  have HA2:=Hd hA
  clear oA hA hgd
  have y3:w3.cell? ⟨gd1,3,none⟩=some (.slice a31 l31 c31):=cell_at 3 HA1.out
  have hbs:=HWH1.out.size
  have KH:=chas_all 2 2 1000000 (Nat.le_refl _) d1.body (by omega) w3 _ _ HDV1.out.partsT
  have KR:=fun W o=>cread_all 1000000 (Nat.le_refl _) d1.body (by omega) W _ _ (SsV.quiet HDV1.out.partsT (w':=W) o)
  have HPT2:=HPT.out
  obtain ⟨b22,h22⟩:∃ b,b=hasB 2 2 d1.body:=⟨_,rfl⟩
  obtain ⟨rb,hrb⟩:∃ b,b=readB d1.body:=⟨_,rfl⟩
  rw [← h22] at KH HPT2
  rw [← hrb] at HPT2
  have hk:∀ W,Only [] w3 W→Calls Try.prog 21 #[.slice a31 l31 c31] W fun en w'=>en=.returned (.bool rb)∧Only [] W w':=fun W o=>by rw [hrb];exact KR W o
  clear hbs KR h22 hrb HPT HDV1 HDV2
  by_cases hc:cf1=0
  ·subst hc
   cases b22 with
   | true=>
    have hT:okT d1=false:=by rw [HPT2];rfl
    clear HPT2
    obtain rfl:ev2=err 13:=by have h:=HEV2.out;rw [hT,if_neg (by decide)] at h;exact h
    clear hT HEV2
    have q1:=eql_errT 13
    have q2:=e13_e13
    go_wp2_with fail
    refine KH.mono ?_
    rintro e w4 ⟨rfl,o4⟩
    replace HO:=Hd (HO.out.trans o4 (by simp))
    (try replace HX1:=Hd (o4.heap HX1.out (by simp)))
    (try replace HX2:=Hd (o4.heap HX2.out (by simp)))
    (try replace HOK1:=Hd (fun d h=>(HOK1.out d h).kept o4 (by simp) (fun _ h=>h)))
    (try replace HOK2:=Hd (fun d h=>(HOK2.out d h).kept o4 (by simp) (fun _ h=>h)))
    (try replace HDV1:=Hd (HDV1.out.kept o4 (by simp) (fun _ h=>h)))
    (try replace HDV2:=Hd (HDV2.out.kept o4 (by simp) (fun _ h=>h)))
    (try replace HDV3:=Hd (HDV3.out.kept o4 (by simp) (fun _ h=>h)))
    (try replace HDV4:=Hd (HDV4.out.kept o4 (by simp) (fun _ h=>h)))
    (try replace HA1:=Hd (o4.heap HA1.out (by simp)))
    (try replace HA2:=Hd (o4.heap HA2.out (by simp)))
    (try replace HA3:=Hd (o4.heap HA3.out (by simp)))
    (try replace HA4:=Hd (o4.heap HA4.out (by simp)))
    (try replace HI1:=Hd (o4.heap HI1.out (by simp)))
    (try replace HI2:=Hd (o4.heap HI2.out (by simp)))
    (try replace HP1:=Hd (HP1.out.kept o4 (by simp)))
    (try replace HP2:=Hd (HP2.out.kept o4 (by simp)))
    (try replace HP3:=Hd (HP3.out.kept o4 (by simp)))
    (try replace HP4:=Hd (HP4.out.kept o4 (by simp)))
    (try replace HP5:=Hd (HP5.out.kept o4 (by simp)))
    clear KH o4 hk y3
    go_wp2_with fail
    go_ret
    exact ⟨rfl,HO.out⟩
   | false=>
    go_wp2_with fail
    refine KH.mono ?_
    rintro e w4 ⟨rfl,o4⟩
    replace HO:=Hd (HO.out.trans o4 (by simp))
    (try replace HX1:=Hd (o4.heap HX1.out (by simp)))
    (try replace HX2:=Hd (o4.heap HX2.out (by simp)))
    (try replace HOK1:=Hd (fun d h=>(HOK1.out d h).kept o4 (by simp) (fun _ h=>h)))
    (try replace HOK2:=Hd (fun d h=>(HOK2.out d h).kept o4 (by simp) (fun _ h=>h)))
    (try replace HDV1:=Hd (HDV1.out.kept o4 (by simp) (fun _ h=>h)))
    (try replace HDV2:=Hd (HDV2.out.kept o4 (by simp) (fun _ h=>h)))
    (try replace HDV3:=Hd (HDV3.out.kept o4 (by simp) (fun _ h=>h)))
    (try replace HDV4:=Hd (HDV4.out.kept o4 (by simp) (fun _ h=>h)))
    (try replace HA1:=Hd (o4.heap HA1.out (by simp)))
    (try replace HA2:=Hd (o4.heap HA2.out (by simp)))
    (try replace HA3:=Hd (o4.heap HA3.out (by simp)))
    (try replace HA4:=Hd (o4.heap HA4.out (by simp)))
    (try replace HI1:=Hd (o4.heap HI1.out (by simp)))
    (try replace HI2:=Hd (o4.heap HI2.out (by simp)))
    (try replace HP1:=Hd (HP1.out.kept o4 (by simp)))
    (try replace HP2:=Hd (HP2.out.kept o4 (by simp)))
    (try replace HP3:=Hd (HP3.out.kept o4 (by simp)))
    (try replace HP4:=Hd (HP4.out.kept o4 (by simp)))
    (try replace HP5:=Hd (HP5.out.kept o4 (by simp)))
    have KR:=hk w4 o4
    have y3':=cell_kept o4 y3 (by simp)
    clear KH o4 hk y3
    cases rb with
    | true=>
     have hT:okT d1=false:=by rw [HPT2];rfl
     clear HPT2
     obtain rfl:ev2=err 13:=by have h:=HEV2.out;rw [hT,if_neg (by decide)] at h;exact h
     clear hT HEV2
     have q1:=eql_errT 13
     have q2:=e13_e13
     go_wp2_with fail
     refine KR.mono ?_
     rintro e w5 ⟨rfl,o5⟩
     replace HO:=Hd (HO.out.trans o5 (by simp))
     (try replace HX1:=Hd (o5.heap HX1.out (by simp)))
     (try replace HX2:=Hd (o5.heap HX2.out (by simp)))
     (try replace HOK1:=Hd (fun d h=>(HOK1.out d h).kept o5 (by simp) (fun _ h=>h)))
     (try replace HOK2:=Hd (fun d h=>(HOK2.out d h).kept o5 (by simp) (fun _ h=>h)))
     (try replace HDV1:=Hd (HDV1.out.kept o5 (by simp) (fun _ h=>h)))
     (try replace HDV2:=Hd (HDV2.out.kept o5 (by simp) (fun _ h=>h)))
     (try replace HDV3:=Hd (HDV3.out.kept o5 (by simp) (fun _ h=>h)))
     (try replace HDV4:=Hd (HDV4.out.kept o5 (by simp) (fun _ h=>h)))
     (try replace HA1:=Hd (o5.heap HA1.out (by simp)))
     (try replace HA2:=Hd (o5.heap HA2.out (by simp)))
     (try replace HA3:=Hd (o5.heap HA3.out (by simp)))
     (try replace HA4:=Hd (o5.heap HA4.out (by simp)))
     (try replace HI1:=Hd (o5.heap HI1.out (by simp)))
     (try replace HI2:=Hd (o5.heap HI2.out (by simp)))
     (try replace HP1:=Hd (HP1.out.kept o5 (by simp)))
     (try replace HP2:=Hd (HP2.out.kept o5 (by simp)))
     (try replace HP3:=Hd (HP3.out.kept o5 (by simp)))
     (try replace HP4:=Hd (HP4.out.kept o5 (by simp)))
     (try replace HP5:=Hd (HP5.out.kept o5 (by simp)))
     clear KR o5 y3'
     go_wp2_with fail
     go_ret
     exact ⟨rfl,HO.out⟩
    | false=>
     have hT:okT d1=true:=by rw [HPT2];rfl
     clear HPT2
     obtain rfl:ev2=.nilIface:=by have h:=HEV2.out;rw [hT,if_pos rfl] at h;exact h
     clear hT HEV2
     have q1:=nil_nilT
     go_wp2_with fail
     refine KR.mono ?_
     rintro e w5 ⟨rfl,o5⟩
     replace HO:=Hd (HO.out.trans o5 (by simp))
     (try replace HX1:=Hd (o5.heap HX1.out (by simp)))
     (try replace HX2:=Hd (o5.heap HX2.out (by simp)))
     (try replace HOK1:=Hd (fun d h=>(HOK1.out d h).kept o5 (by simp) (fun _ h=>h)))
     (try replace HOK2:=Hd (fun d h=>(HOK2.out d h).kept o5 (by simp) (fun _ h=>h)))
     (try replace HDV1:=Hd (HDV1.out.kept o5 (by simp) (fun _ h=>h)))
     (try replace HDV2:=Hd (HDV2.out.kept o5 (by simp) (fun _ h=>h)))
     (try replace HDV3:=Hd (HDV3.out.kept o5 (by simp) (fun _ h=>h)))
     (try replace HDV4:=Hd (HDV4.out.kept o5 (by simp) (fun _ h=>h)))
     (try replace HA1:=Hd (o5.heap HA1.out (by simp)))
     (try replace HA2:=Hd (o5.heap HA2.out (by simp)))
     (try replace HA3:=Hd (o5.heap HA3.out (by simp)))
     (try replace HA4:=Hd (o5.heap HA4.out (by simp)))
     (try replace HI1:=Hd (o5.heap HI1.out (by simp)))
     (try replace HI2:=Hd (o5.heap HI2.out (by simp)))
     (try replace HP1:=Hd (HP1.out.kept o5 (by simp)))
     (try replace HP2:=Hd (HP2.out.kept o5 (by simp)))
     (try replace HP3:=Hd (HP3.out.kept o5 (by simp)))
     (try replace HP4:=Hd (HP4.out.kept o5 (by simp)))
     (try replace HP5:=Hd (HP5.out.kept o5 (by simp)))
     clear KR o5 y3'
     go_wp2_with fail
     go_ret
     exact ⟨rfl,HO.out⟩
  ·have hT:okT d1=false:=by
    rw [HPT2]
    have:(cf1 == 0)=false:=by simpa using hc
    rw [this]
    rfl
   have hc':(cf1 == 0)=false:=by simpa using hc
   clear HPT2 hc
   obtain rfl:ev2=err 13:=by have h:=HEV2.out;rw [hT,if_neg (by decide)] at h;exact h
   clear hT HEV2
   have q1:=eql_errT 13
   have q2:=e13_e13
   clear KH hk
   go_wp2_with fail
   go_ret
   exact ⟨rfl,HO.out⟩
set_option maxRecDepth 100000 in
theorem ikinds_lifted (os:Os) (started:os.Started) (H:Type) (enc:TypeId×Value→H) :
  ReturnsInHanded {} Try.checked os 7 .any (Rows.invertKindsSpec.pre6 enc Try.prog Try.f7 Rows.invertKindsRow.domain false) (Rows.invertKindsSpec.post enc Try.prog Try.f7 false true false false):=by
 refine returnsInHanded_of_change (C:=Try.checked) law_own started (by kernel_rfl) Try.func7
  (ChangeSpec.witness6 (enc:=enc) (C:=Try.checked) false ⟨#[],#[.string ⟨#[]⟩],[]⟩ 8 (by kernel_rfl) (by kernel_rfl) (by kernel_rfl) (by kernel_rfl)) ?_
 intro W base args ds gs before hval0 hW hcnd _
 have hval:∀ (j:Nat) t v,Try.f7.params[j]?=some t→args[j]?=some v→Value.okWide Try.prog W .any base t v:=hval0
 have hW':=hW
 obtain ⟨p,q,hA0,hV,rfl,hfz,hnd⟩:=hW
 have hA:DataW.TrodAll enc Try.prog W 0 (fun _=>true) true Try.f7.params.toList args.toList ds p:=hA0
 rw [Try.params7] at hA hval
 obtain ⟨v0,vs0,d0,ds0,p0,q0,hargs,rfl,rfl,h0,r0⟩:=trodAll_cons hA
 obtain ⟨rfl,rfl,rfl⟩:=trodAll_nil r0
 obtain rfl:args=#[v0]:=by cases args;simp_all
 obtain ⟨rfl,rfl⟩:=trodVars_none hV
 obtain ⟨a0,rfl,rfl,rfl,w0⟩:=Go.ChangeMaps.open_string Try.underlying9 (hval 0 9 v0 rfl rfl) h0
 clear hA0 hval0
 refine (ikinds_walk a0  W w0).mono fun e W' ⟨he,hg⟩=>?_
 subst he
 exact ⟨_,rfl,post_quiet (pa:=([]++[])) (pv:=[]) hW' hg (fun _ _ _=>(trodAll_cons_mk (shut_bool Try.underlying4 _) trodAll_mk0)) (fun sp hsp=>(trodAll_cons_mk (Go.ChangeMaps.shut_string Try.underlying9 w0) trodAll_mk0)) (fun _ _=>rfl) (by simp) (ok_one (by kernel_rfl) rfl (okWide_bool_mk Try.underlying4 _))⟩
theorem ikinds_over:Rows.invertKindsRow.holds Try.pinned (OpenSpec.ofChange Rows.invertKindsSpec):=
 OpenClaim.holds_of_wide 7 Try.f7 rfl rfl rfl rfl rfl rfl rfl ⟨rfl,rfl,rfl,rfl,rfl⟩ rfl rfl rfl rfl rfl (by kernel_rfl) Try.func7 (by kernel_rfl)
  (of_decide_eq_true (by kernel_rfl)) (by unfold Func.isWrapper;first | (rw [if_pos (by decide +kernel)];kernel_rfl) | (rw [if_neg (by decide +kernel)];exact ⟨rfl,rfl⟩))
  (fun os started H enc _=>ikinds_lifted os started H enc)
theorem ikinds_holds:Rows.InvertKindsSaid:=
 ikinds_over
#print axioms ikinds_holds
end Go.Proofs.Ytagkbbcpbebapaa
