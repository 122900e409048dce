/- InvertTurns, for every input: it returns true, and its argument reads behind the call as it did: which operations can be turned round, and what they are then, as the document's own Turn has it. No condition. -/
import Derived.Test.YtagkbbcpbebapaaIdr
import Derived.Test.YtagkbbcpbebapaaIer
import Derived.Test.YtagkbbcpbebapaaWar
import Derived.Test.YtagkbbcpbebapaaZgr
import Derived.ChangeMaps5
namespace Go.Proofs.Ytagkbbcpbebapaa
open Go.ChangeShapes Go.WideShapes Go.ChangeAt Go.RowKit Go.Maps
set_option linter.unusedVariables false
set_option linter.unusedSimpArgs false
theorem turn_small {d:Df} (h:Whole d) (b:Bool):sizeL (if b=true then turnD d else ⟨[],[],[],[],[]⟩:Df).needs+sizeSs (if b=true then turnD d else ⟨[],[],[],[],[]⟩:Df).body+sizeL (if b=true then turnD d else ⟨[],[],[],[],[]⟩:Df).give≤1000000∧
  (if b=true then turnD d else ⟨[],[],[],[],[]⟩:Df).params.length≤1000000:=by
 cases b with
 | true=>
  rw [if_pos rfl]
  have h1:=(turn_whole h).size
  have h2:=(turn_whole h).plen
  omega
 | false=>
  rw [if_neg (by decide)]
  simp [sizeL_nil,sizeSs_nil]
theorem num_turn (b:Bool) (w:World):Calls Try.prog 14 #[if b=true then .nilIface else err 13] w fun e w'=>e=.returned (.int .i64 (if b=true then 0 else 13))∧w=w':=by
 cases b with
 | true=>
  rw [if_pos rfl,if_pos rfl]
  exact num_nil w
 | false=>
  rw [if_neg (by decide),if_neg (by decide)]
  exact num_err 13 w (by decide)
set_option maxRecDepth 100000 in
set_option maxHeartbeats 16000000 in
theorem iturns_walk (s1:ByteArray) (w:World) (hs1:s1.size≤maxLen) :
  Calls Try.prog 3 #[.string s1] w fun e w'=>e=.returned (.bool true)∧Only [] w w':=by
 have hs1':s1.size≤9223372036854775807:=by unfold maxLen at hs1;omega
 clear hs1
 go_enter Try.func3,Try.ntmps3
 go_wp2_with fail
 refine (alive10_any w).mono ?_
 rintro e w0 ⟨rfl,o0⟩
 have HO:=Hd o0
 clear o0
 obtain ⟨R1,hR⟩:∃ R,R=parseS s1.data.toList:=⟨_,rfl⟩
 have K1:=parsed_any s1 w0 hs1'
 rw [← hR] at K1
 have HR1:=Hd hR
 clear hR
 go_wp2_with fail
 refine K1.mono ?_
 rintro e w0a ⟨sn1,a11,a21,a31,a41,l11,l21,l31,l41,c11,c21,c31,c41,rfl,hok,o1⟩
 replace HO:=Hd (HO.out.trans o1 (by simp))
 (try replace HX1:=Hd (o1.heap HX1.out (by simp)))
 (try replace HX2:=Hd (o1.heap HX2.out (by simp)))
 (try replace HOK1:=Hd (fun d h=>(HOK1.out d h).kept o1 (by simp) (fun _ h=>h)))
 (try replace HOK2:=Hd (fun d h=>(HOK2.out d h).kept o1 (by simp) (fun _ h=>h)))
 (try replace HDV1:=Hd (HDV1.out.kept o1 (by simp) (fun _ h=>h)))
 (try replace HDV2:=Hd (HDV2.out.kept o1 (by simp) (fun _ h=>h)))
 (try replace HDV3:=Hd (HDV3.out.kept o1 (by simp) (fun _ h=>h)))
 (try replace HDV4:=Hd (HDV4.out.kept o1 (by simp) (fun _ h=>h)))
 (try replace HA1:=Hd (o1.heap HA1.out (by simp)))
 (try replace HA2:=Hd (o1.heap HA2.out (by simp)))
 (try replace HA3:=Hd (o1.heap HA3.out (by simp)))
 (try replace HA4:=Hd (o1.heap HA4.out (by simp)))
 (try replace HI1:=Hd (o1.heap HI1.out (by simp)))
 (try replace HI2:=Hd (o1.heap HI2.out (by simp)))
 (try replace HP1:=Hd (HP1.out.kept o1 (by simp)))
 (try replace HP2:=Hd (HP2.out.kept o1 (by simp)))
 (try replace HP3:=Hd (HP3.out.kept o1 (by simp)))
 (try replace HP4:=Hd (HP4.out.kept o1 (by simp)))
 (try replace HP5:=Hd (HP5.out.kept o1 (by simp)))
 have HOK1:=Hd hok
 clear K1 o1 hok
 go_upto_region 4 with (fail)
 have oA:=(Only.refl [] w0a).alloc (.cells #[.string sn1,.slice a11 l11 c11,.slice a21 l21 c21,.slice a31 l31 c31,.slice a41 l41 c41] 27)
 have hA:=heap_new w0a (.cells #[.string sn1,.slice a11 l11 c11,.slice a21 l21 c21,.slice a31 l31 c31,.slice a41 l41 c41] 27)
 obtain ⟨gd1,hgd⟩:∃ g,g=w0a.heap.size:=⟨_,rfl⟩
 rw [← hgd] at hA⊢
 generalize w0a.alloc (.cells #[.string sn1,.slice a11 l11 c11,.slice a21 l21 c21,.slice a31 l31 c31,.slice a41 l41 c41] 27)=w1 at oA hA⊢
 replace HO:=Hd (HO.out.trans oA (by simp))
 (try replace HX1:=Hd (oA.heap HX1.out (by simp)))
 (try replace HX2:=Hd (oA.heap HX2.out (by simp)))
 (try replace HOK1:=Hd (fun d h=>(HOK1.out d h).kept oA (by simp) (fun _ h=>h)))
 (try replace HOK2:=Hd (fun d h=>(HOK2.out d h).kept oA (by simp) (fun _ h=>h)))
 (try replace HDV1:=Hd (HDV1.out.kept oA (by simp) (fun _ h=>h)))
 (try replace HDV2:=Hd (HDV2.out.kept oA (by simp) (fun _ h=>h)))
 (try replace HDV3:=Hd (HDV3.out.kept oA (by simp) (fun _ h=>h)))
 (try replace HDV4:=Hd (HDV4.out.kept oA (by simp) (fun _ h=>h)))
 (try replace HA1:=Hd (oA.heap HA1.out (by simp)))
 (try replace HA2:=Hd (oA.heap HA2.out (by simp)))
 (try replace HA3:=Hd (oA.heap HA3.out (by simp)))
 (try replace HA4:=Hd (oA.heap HA4.out (by simp)))
 (try replace HI1:=Hd (oA.heap HI1.out (by simp)))
 (try replace HI2:=Hd (oA.heap HI2.out (by simp)))
 (try replace HP1:=Hd (HP1.out.kept oA (by simp)))
 (try replace HP2:=Hd (HP2.out.kept oA (by simp)))
 (try replace HP3:=Hd (HP3.out.kept oA (by simp)))
 (try replace HP4:=Hd (HP4.out.kept oA (by simp)))
 (try replace HP5:=Hd (HP5.out.kept oA (by simp)))
 have HA1:=Hd hA
 clear oA hA hgd
 cases R1 with
 | error q=>
  rw [show isOk (Except.error q:Except (Nat×Nat) Df)=false from rfl]
  go_wp2_with fail
  go_ret
  exact ⟨rfl,HO.out⟩
 | ok d1=>
  rw [show isOk (Except.ok d1:Except (Nat×Nat) Df)=true from rfl]
  have HRR:=Hd (show parseS s1.data.toList=.ok d1 from HR1.out.symm)
  have HDV1:=Hd (HOK1.out d1 rfl)
  have HWH1:=Hd (parse_whole HR1.out.symm)
  have HPL1:=Hd (parse_plain HR1.out.symm)
  have HGD1:=Hd (parse_good HR1.out.symm)
  clear HOK1 HR1
  go_upto_region 6 with (fail)
  have y0:w1.cell? ⟨gd1,0,none⟩=some (.string sn1):=cell_at 0 HA1.out
  have y1:w1.cell? ⟨gd1,1,none⟩=some (.slice a11 l11 c11):=cell_at 1 HA1.out
  have y2:w1.cell? ⟨gd1,2,none⟩=some (.slice a21 l21 c21):=cell_at 2 HA1.out
  have y3:w1.cell? ⟨gd1,3,none⟩=some (.slice a31 l31 c31):=cell_at 3 HA1.out
  have y4:w1.cell? ⟨gd1,4,none⟩=some (.slice a41 l41 c41):=cell_at 4 HA1.out
  have KT:=iturn_any HDV1.out HWH1.out HPL1.out
  go_wp2_with fail
  refine KT.mono ?_
  rintro e w1a ⟨sn2,a12,a22,a32,a42,l12,l22,l32,l42,c12,c22,c32,c42,rfl,hdv,o1⟩
  replace HO:=Hd (HO.out.trans o1 (by simp))
  (try replace HX1:=Hd (o1.heap HX1.out (by simp)))
  (try replace HX2:=Hd (o1.heap HX2.out (by simp)))
  (try replace HOK1:=Hd (fun d h=>(HOK1.out d h).kept o1 (by simp) (fun _ h=>h)))
  (try replace HOK2:=Hd (fun d h=>(HOK2.out d h).kept o1 (by simp) (fun _ h=>h)))
  (try replace HDV1:=Hd (HDV1.out.kept o1 (by simp) (fun _ h=>h)))
  (try replace HDV2:=Hd (HDV2.out.kept o1 (by simp) (fun _ h=>h)))
  (try replace HDV3:=Hd (HDV3.out.kept o1 (by simp) (fun _ h=>h)))
  (try replace HDV4:=Hd (HDV4.out.kept o1 (by simp) (fun _ h=>h)))
  (try replace HA1:=Hd (o1.heap HA1.out (by simp)))
  (try replace HA2:=Hd (o1.heap HA2.out (by simp)))
  (try replace HA3:=Hd (o1.heap HA3.out (by simp)))
  (try replace HA4:=Hd (o1.heap HA4.out (by simp)))
  (try replace HI1:=Hd (o1.heap HI1.out (by simp)))
  (try replace HI2:=Hd (o1.heap HI2.out (by simp)))
  (try replace HP1:=Hd (HP1.out.kept o1 (by simp)))
  (try replace HP2:=Hd (HP2.out.kept o1 (by simp)))
  (try replace HP3:=Hd (HP3.out.kept o1 (by simp)))
  (try replace HP4:=Hd (HP4.out.kept o1 (by simp)))
  (try replace HP5:=Hd (HP5.out.kept o1 (by simp)))
  have HDV2:=Hd hdv
  obtain ⟨ev2,hev⟩:∃ v,v=(if okT d1=true then Value.nilIface else err 13):=⟨_,rfl⟩
  rw [← hev]
  have HEV2:=Hd hev
  clear KT hdv o1 y0 y1 y2 y3 y4 hev
  go_upto_region 7 with (fail)
  have oA:=(Only.refl [] w1a).alloc (.cells #[.string sn2,.slice a12 l12 c12,.slice a22 l22 c22,.slice a32 l32 c32,.slice a42 l42 c42] 27)
  have hA:=heap_new w1a (.cells #[.string sn2,.slice a12 l12 c12,.slice a22 l22 c22,.slice a32 l32 c32,.slice a42 l42 c42] 27)
  obtain ⟨gd2,hgd⟩:∃ g,g=w1a.heap.size:=⟨_,rfl⟩
  rw [← hgd] at hA⊢
  generalize w1a.alloc (.cells #[.string sn2,.slice a12 l12 c12,.slice a22 l22 c22,.slice a32 l32 c32,.slice a42 l42 c42] 27)=w2 at oA hA⊢
  replace HO:=Hd (HO.out.trans oA (by simp))
  (try replace HX1:=Hd (oA.heap HX1.out (by simp)))
  (try replace HX2:=Hd (oA.heap HX2.out (by simp)))
  (try replace HOK1:=Hd (fun d h=>(HOK1.out d h).kept oA (by simp) (fun _ h=>h)))
  (try replace HOK2:=Hd (fun d h=>(HOK2.out d h).kept oA (by simp) (fun _ h=>h)))
  (try replace HDV1:=Hd (HDV1.out.kept oA (by simp) (fun _ h=>h)))
  (try replace HDV2:=Hd (HDV2.out.kept oA (by simp) (fun _ h=>h)))
  (try replace HDV3:=Hd (HDV3.out.kept oA (by simp) (fun _ h=>h)))
  (try replace HDV4:=Hd (HDV4.out.kept oA (by simp) (fun _ h=>h)))
  (try replace HA1:=Hd (oA.heap HA1.out (by simp)))
  (try replace HA2:=Hd (oA.heap HA2.out (by simp)))
  (try replace HA3:=Hd (oA.heap HA3.out (by simp)))
  (try replace HA4:=Hd (oA.heap HA4.out (by simp)))
  (try replace HI1:=Hd (oA.heap HI1.out (by simp)))
  (try replace HI2:=Hd (oA.heap HI2.out (by simp)))
  (try replace HP1:=Hd (HP1.out.kept oA (by simp)))
  (try replace HP2:=Hd (HP2.out.kept oA (by simp)))
  (try replace HP3:=Hd (HP3.out.kept oA (by simp)))
  (try replace HP4:=Hd (HP4.out.kept oA (by simp)))
  (try replace HP5:=Hd (HP5.out.kept oA (by simp)))
  have HA2:=Hd hA
  clear oA hA hgd
  have y0:w2.cell? ⟨gd1,0,none⟩=some (.string sn1):=cell_at 0 HA1.out
  have y1:w2.cell? ⟨gd1,1,none⟩=some (.slice a11 l11 c11):=cell_at 1 HA1.out
  have y2:w2.cell? ⟨gd1,2,none⟩=some (.slice a21 l21 c21):=cell_at 2 HA1.out
  have y3:w2.cell? ⟨gd1,3,none⟩=some (.slice a31 l31 c31):=cell_at 3 HA1.out
  have y4:w2.cell? ⟨gd1,4,none⟩=some (.slice a41 l41 c41):=cell_at 4 HA1.out
  have KT:=rturn_any HDV1.out HWH1.out HPL1.out
  go_wp2_with fail
  refine KT.mono ?_
  rintro e w2a ⟨sn3,a13,a23,a33,a43,l13,l23,l33,l43,c13,c23,c33,c43,rfl,hdv,o1⟩
  replace HO:=Hd (HO.out.trans o1 (by simp))
  (try replace HX1:=Hd (o1.heap HX1.out (by simp)))
  (try replace HX2:=Hd (o1.heap HX2.out (by simp)))
  (try replace HOK1:=Hd (fun d h=>(HOK1.out d h).kept o1 (by simp) (fun _ h=>h)))
  (try replace HOK2:=Hd (fun d h=>(HOK2.out d h).kept o1 (by simp) (fun _ h=>h)))
  (try replace HDV1:=Hd (HDV1.out.kept o1 (by simp) (fun _ h=>h)))
  (try replace HDV2:=Hd (HDV2.out.kept o1 (by simp) (fun _ h=>h)))
  (try replace HDV3:=Hd (HDV3.out.kept o1 (by simp) (fun _ h=>h)))
  (try replace HDV4:=Hd (HDV4.out.kept o1 (by simp) (fun _ h=>h)))
  (try replace HA1:=Hd (o1.heap HA1.out (by simp)))
  (try replace HA2:=Hd (o1.heap HA2.out (by simp)))
  (try replace HA3:=Hd (o1.heap HA3.out (by simp)))
  (try replace HA4:=Hd (o1.heap HA4.out (by simp)))
  (try replace HI1:=Hd (o1.heap HI1.out (by simp)))
  (try replace HI2:=Hd (o1.heap HI2.out (by simp)))
  (try replace HP1:=Hd (HP1.out.kept o1 (by simp)))
  (try replace HP2:=Hd (HP2.out.kept o1 (by simp)))
  (try replace HP3:=Hd (HP3.out.kept o1 (by simp)))
  (try replace HP4:=Hd (HP4.out.kept o1 (by simp)))
  (try replace HP5:=Hd (HP5.out.kept o1 (by simp)))
  have HDV3:=Hd hdv
  obtain ⟨fv,hfv⟩:∃ f:Int,f=(if okT d1=true then 0 else 13):=⟨_,rfl⟩
  rw [← hfv]
  have KN:=fun W=>num_turn (okT d1) W
  rw [← HEV2.out,← hfv] at KN
  clear KT hdv o1 y0 y1 y2 y3 y4 hfv HEV2
  go_upto_region 8 with (fail)
  have oA:=(Only.refl [] w2a).alloc (.cells #[.string sn3,.slice a13 l13 c13,.slice a23 l23 c23,.slice a33 l33 c33,.slice a43 l43 c43] 27)
  have hA:=heap_new w2a (.cells #[.string sn3,.slice a13 l13 c13,.slice a23 l23 c23,.slice a33 l33 c33,.slice a43 l43 c43] 27)
  obtain ⟨gd3,hgd⟩:∃ g,g=w2a.heap.size:=⟨_,rfl⟩
  rw [← hgd] at hA⊢
  generalize w2a.alloc (.cells #[.string sn3,.slice a13 l13 c13,.slice a23 l23 c23,.slice a33 l33 c33,.slice a43 l43 c43] 27)=w3 at oA hA⊢
  replace HO:=Hd (HO.out.trans oA (by simp))
  (try replace HX1:=Hd (oA.heap HX1.out (by simp)))
  (try replace HX2:=Hd (oA.heap HX2.out (by simp)))
  (try replace HOK1:=Hd (fun d h=>(HOK1.out d h).kept oA (by simp) (fun _ h=>h)))
  (try replace HOK2:=Hd (fun d h=>(HOK2.out d h).kept oA (by simp) (fun _ h=>h)))
  (try replace HDV1:=Hd (HDV1.out.kept oA (by simp) (fun _ h=>h)))
  (try replace HDV2:=Hd (HDV2.out.kept oA (by simp) (fun _ h=>h)))
  (try replace HDV3:=Hd (HDV3.out.kept oA (by simp) (fun _ h=>h)))
  (try replace HDV4:=Hd (HDV4.out.kept oA (by simp) (fun _ h=>h)))
  (try replace HA1:=Hd (oA.heap HA1.out (by simp)))
  (try replace HA2:=Hd (oA.heap HA2.out (by simp)))
  (try replace HA3:=Hd (oA.heap HA3.out (by simp)))
  (try replace HA4:=Hd (oA.heap HA4.out (by simp)))
  (try replace HI1:=Hd (oA.heap HI1.out (by simp)))
  (try replace HI2:=Hd (oA.heap HI2.out (by simp)))
  (try replace HP1:=Hd (HP1.out.kept oA (by simp)))
  (try replace HP2:=Hd (HP2.out.kept oA (by simp)))
  (try replace HP3:=Hd (HP3.out.kept oA (by simp)))
  (try replace HP4:=Hd (HP4.out.kept oA (by simp)))
  (try replace HP5:=Hd (HP5.out.kept oA (by simp)))
  have HA3:=Hd hA
  clear oA hA hgd
  have K1:=parsed_any s1 w3 hs1'
  rw [HRR.out] at K1
  clear HRR
  go_wp2_with fail
  refine K1.mono ?_
  rintro e w3a ⟨sn4,a14,a24,a34,a44,l14,l24,l34,l44,c14,c24,c34,c44,rfl,hok,o1⟩
  replace HO:=Hd (HO.out.trans o1 (by simp))
  (try replace HX1:=Hd (o1.heap HX1.out (by simp)))
  (try replace HX2:=Hd (o1.heap HX2.out (by simp)))
  (try replace HOK1:=Hd (fun d h=>(HOK1.out d h).kept o1 (by simp) (fun _ h=>h)))
  (try replace HOK2:=Hd (fun d h=>(HOK2.out d h).kept o1 (by simp) (fun _ h=>h)))
  (try replace HDV1:=Hd (HDV1.out.kept o1 (by simp) (fun _ h=>h)))
  (try replace HDV2:=Hd (HDV2.out.kept o1 (by simp) (fun _ h=>h)))
  (try replace HDV3:=Hd (HDV3.out.kept o1 (by simp) (fun _ h=>h)))
  (try replace HDV4:=Hd (HDV4.out.kept o1 (by simp) (fun _ h=>h)))
  (try replace HA1:=Hd (o1.heap HA1.out (by simp)))
  (try replace HA2:=Hd (o1.heap HA2.out (by simp)))
  (try replace HA3:=Hd (o1.heap HA3.out (by simp)))
  (try replace HA4:=Hd (o1.heap HA4.out (by simp)))
  (try replace HI1:=Hd (o1.heap HI1.out (by simp)))
  (try replace HI2:=Hd (o1.heap HI2.out (by simp)))
  (try replace HP1:=Hd (HP1.out.kept o1 (by simp)))
  (try replace HP2:=Hd (HP2.out.kept o1 (by simp)))
  (try replace HP3:=Hd (HP3.out.kept o1 (by simp)))
  (try replace HP4:=Hd (HP4.out.kept o1 (by simp)))
  (try replace HP5:=Hd (HP5.out.kept o1 (by simp)))
  have HDV4:=Hd (hok d1 rfl)
  clear K1 o1 hok
  go_upto_region 9 with (fail)
  have oA:=(Only.refl [] w3a).alloc (.cells #[.string sn4,.slice a14 l14 c14,.slice a24 l24 c24,.slice a34 l34 c34,.slice a44 l44 c44] 27)
  have hA:=heap_new w3a (.cells #[.string sn4,.slice a14 l14 c14,.slice a24 l24 c24,.slice a34 l34 c34,.slice a44 l44 c44] 27)
  obtain ⟨gd4,hgd⟩:∃ g,g=w3a.heap.size:=⟨_,rfl⟩
  rw [← hgd] at hA⊢
  generalize w3a.alloc (.cells #[.string sn4,.slice a14 l14 c14,.slice a24 l24 c24,.slice a34 l34 c34,.slice a44 l44 c44] 27)=w4 at oA hA⊢
  replace HO:=Hd (HO.out.trans oA (by simp))
  (try replace HX1:=Hd (oA.heap HX1.out (by simp)))
  (try replace HX2:=Hd (oA.heap HX2.out (by simp)))
  (try replace HOK1:=Hd (fun d h=>(HOK1.out d h).kept oA (by simp) (fun _ h=>h)))
  (try replace HOK2:=Hd (fun d h=>(HOK2.out d h).kept oA (by simp) (fun _ h=>h)))
  (try replace HDV1:=Hd (HDV1.out.kept oA (by simp) (fun _ h=>h)))
  (try replace HDV2:=Hd (HDV2.out.kept oA (by simp) (fun _ h=>h)))
  (try replace HDV3:=Hd (HDV3.out.kept oA (by simp) (fun _ h=>h)))
  (try replace HDV4:=Hd (HDV4.out.kept oA (by simp) (fun _ h=>h)))
  (try replace HA1:=Hd (oA.heap HA1.out (by simp)))
  (try replace HA2:=Hd (oA.heap HA2.out (by simp)))
  (try replace HA3:=Hd (oA.heap HA3.out (by simp)))
  (try replace HA4:=Hd (oA.heap HA4.out (by simp)))
  (try replace HI1:=Hd (oA.heap HI1.out (by simp)))
  (try replace HI2:=Hd (oA.heap HI2.out (by simp)))
  (try replace HP1:=Hd (HP1.out.kept oA (by simp)))
  (try replace HP2:=Hd (HP2.out.kept oA (by simp)))
  (try replace HP3:=Hd (HP3.out.kept oA (by simp)))
  (try replace HP4:=Hd (HP4.out.kept oA (by simp)))
  (try replace HP5:=Hd (HP5.out.kept oA (by simp)))
  have HA4:=Hd hA
  clear oA hA hgd
  have hts:=turn_small HWH1.out (okT d1)
  have KS:=same_dv HDV2.out HDV3.out hts.1 hts.2
  have hws:=HWH1.out.size
  have hwp:=HWH1.out.plen
  have HK2:=Hd (fun W (o:Only [] w4 W)=>same_dv (HDV1.out.kept o (by simp) (fun _ h=>h)) (HDV4.out.kept o (by simp) (fun _ h=>h)) (by omega) (by omega))
  clear HDV1 HDV2 HDV3 HDV4 hws hwp hts
  have y0:w4.cell? ⟨gd2,0,none⟩=some (.string sn2):=cell_at 0 HA2.out
  have y1:w4.cell? ⟨gd2,1,none⟩=some (.slice a12 l12 c12):=cell_at 1 HA2.out
  have y2:w4.cell? ⟨gd2,2,none⟩=some (.slice a22 l22 c22):=cell_at 2 HA2.out
  have y3:w4.cell? ⟨gd2,3,none⟩=some (.slice a32 l32 c32):=cell_at 3 HA2.out
  have y4:w4.cell? ⟨gd2,4,none⟩=some (.slice a42 l42 c42):=cell_at 4 HA2.out
  have z0:w4.cell? ⟨gd3,0,none⟩=some (.string sn3):=cell_at 0 HA3.out
  have z1:w4.cell? ⟨gd3,1,none⟩=some (.slice a13 l13 c13):=cell_at 1 HA3.out
  have z2:w4.cell? ⟨gd3,2,none⟩=some (.slice a23 l23 c23):=cell_at 2 HA3.out
  have z3:w4.cell? ⟨gd3,3,none⟩=some (.slice a33 l33 c33):=cell_at 3 HA3.out
  have z4:w4.cell? ⟨gd3,4,none⟩=some (.slice a43 l43 c43):=cell_at 4 HA3.out
  go_wp2_with fail
  refine KS.mono ?_
  rintro e w5 ⟨rfl,o1⟩
  replace HO:=Hd (HO.out.trans o1 (by simp))
  (try replace HX1:=Hd (o1.heap HX1.out (by simp)))
  (try replace HX2:=Hd (o1.heap HX2.out (by simp)))
  (try replace HOK1:=Hd (fun d h=>(HOK1.out d h).kept o1 (by simp) (fun _ h=>h)))
  (try replace HOK2:=Hd (fun d h=>(HOK2.out d h).kept o1 (by simp) (fun _ h=>h)))
  (try replace HDV1:=Hd (HDV1.out.kept o1 (by simp) (fun _ h=>h)))
  (try replace HDV2:=Hd (HDV2.out.kept o1 (by simp) (fun _ h=>h)))
  (try replace HDV3:=Hd (HDV3.out.kept o1 (by simp) (fun _ h=>h)))
  (try replace HDV4:=Hd (HDV4.out.kept o1 (by simp) (fun _ h=>h)))
  (try replace HA1:=Hd (o1.heap HA1.out (by simp)))
  (try replace HA2:=Hd (o1.heap HA2.out (by simp)))
  (try replace HA3:=Hd (o1.heap HA3.out (by simp)))
  (try replace HA4:=Hd (o1.heap HA4.out (by simp)))
  (try replace HI1:=Hd (o1.heap HI1.out (by simp)))
  (try replace HI2:=Hd (o1.heap HI2.out (by simp)))
  (try replace HP1:=Hd (HP1.out.kept o1 (by simp)))
  (try replace HP2:=Hd (HP2.out.kept o1 (by simp)))
  (try replace HP3:=Hd (HP3.out.kept o1 (by simp)))
  (try replace HP4:=Hd (HP4.out.kept o1 (by simp)))
  (try replace HP5:=Hd (HP5.out.kept o1 (by simp)))
  have HO5:=Hd o1
  clear KS o1 y0 y1 y2 y3 y4 z0 z1 z2 z3 z4
  go_wp2_with fail
  refine (KN w5).mono ?_
  rintro e wn ⟨rfl,rfl⟩
  have hff:(fv == fv)=true:=by simp
  have y0:w5.cell? ⟨gd1,0,none⟩=some (.string sn1):=cell_at 0 HA1.out
  have y1:w5.cell? ⟨gd1,1,none⟩=some (.slice a11 l11 c11):=cell_at 1 HA1.out
  have y2:w5.cell? ⟨gd1,2,none⟩=some (.slice a21 l21 c21):=cell_at 2 HA1.out
  have y3:w5.cell? ⟨gd1,3,none⟩=some (.slice a31 l31 c31):=cell_at 3 HA1.out
  have y4:w5.cell? ⟨gd1,4,none⟩=some (.slice a41 l41 c41):=cell_at 4 HA1.out
  have z0:w5.cell? ⟨gd4,0,none⟩=some (.string sn4):=cell_at 0 HA4.out
  have z1:w5.cell? ⟨gd4,1,none⟩=some (.slice a14 l14 c14):=cell_at 1 HA4.out
  have z2:w5.cell? ⟨gd4,2,none⟩=some (.slice a24 l24 c24):=cell_at 2 HA4.out
  have z3:w5.cell? ⟨gd4,3,none⟩=some (.slice a34 l34 c34):=cell_at 3 HA4.out
  have z4:w5.cell? ⟨gd4,4,none⟩=some (.slice a44 l44 c44):=cell_at 4 HA4.out
  go_wp2_with fail
  refine (HK2.out w5 HO5.out).mono ?_
  rintro e w6 ⟨rfl,o1⟩
  replace HO:=Hd (HO.out.trans o1 (by simp))
  (try replace HX1:=Hd (o1.heap HX1.out (by simp)))
  (try replace HX2:=Hd (o1.heap HX2.out (by simp)))
  (try replace HOK1:=Hd (fun d h=>(HOK1.out d h).kept o1 (by simp) (fun _ h=>h)))
  (try replace HOK2:=Hd (fun d h=>(HOK2.out d h).kept o1 (by simp) (fun _ h=>h)))
  (try replace HDV1:=Hd (HDV1.out.kept o1 (by simp) (fun _ h=>h)))
  (try replace HDV2:=Hd (HDV2.out.kept o1 (by simp) (fun _ h=>h)))
  (try replace HDV3:=Hd (HDV3.out.kept o1 (by simp) (fun _ h=>h)))
  (try replace HDV4:=Hd (HDV4.out.kept o1 (by simp) (fun _ h=>h)))
  (try replace HA1:=Hd (o1.heap HA1.out (by simp)))
  (try replace HA2:=Hd (o1.heap HA2.out (by simp)))
  (try replace HA3:=Hd (o1.heap HA3.out (by simp)))
  (try replace HA4:=Hd (o1.heap HA4.out (by simp)))
  (try replace HI1:=Hd (o1.heap HI1.out (by simp)))
  (try replace HI2:=Hd (o1.heap HI2.out (by simp)))
  (try replace HP1:=Hd (HP1.out.kept o1 (by simp)))
  (try replace HP2:=Hd (HP2.out.kept o1 (by simp)))
  (try replace HP3:=Hd (HP3.out.kept o1 (by simp)))
  (try replace HP4:=Hd (HP4.out.kept o1 (by simp)))
  (try replace HP5:=Hd (HP5.out.kept o1 (by simp)))
  clear o1 y0 y1 y2 y3 y4 z0 z1 z2 z3 z4 HA1 HA2 HA3 HA4
  go_wp2_with fail
  go_ret
  exact ⟨rfl,HO.out⟩
set_option maxRecDepth 100000 in
theorem iturns_lifted (os:Os) (started:os.Started) (H:Type) (enc:TypeId×Value→H) :
  ReturnsInHanded {} Try.checked os 3 .any (Rows.invertTurnsSpec.pre6 enc Try.prog Try.f3 Rows.invertTurnsRow.domain false) (Rows.invertTurnsSpec.post enc Try.prog Try.f3 false true false false):=by
 refine returnsInHanded_of_change (C:=Try.checked) law_own started (by kernel_rfl) Try.func3
  (ChangeSpec.witness6 (enc:=enc) (C:=Try.checked) false ⟨#[],#[.string ⟨#[]⟩],[]⟩ 8 (by kernel_rfl) (by kernel_rfl) (by kernel_rfl) (by kernel_rfl)) ?_
 intro W base args ds gs before hval0 hW hcnd _
 have hval:∀ (j:Nat) t v,Try.f3.params[j]?=some t→args[j]?=some v→Value.okWide Try.prog W .any base t v:=hval0
 have hW':=hW
 obtain ⟨p,q,hA0,hV,rfl,hfz,hnd⟩:=hW
 have hA:DataW.TrodAll enc Try.prog W 0 (fun _=>true) true Try.f3.params.toList args.toList ds p:=hA0
 rw [Try.params3] at hA hval
 obtain ⟨v0,vs0,d0,ds0,p0,q0,hargs,rfl,rfl,h0,r0⟩:=trodAll_cons hA
 obtain ⟨rfl,rfl,rfl⟩:=trodAll_nil r0
 obtain rfl:args=#[v0]:=by cases args;simp_all
 obtain ⟨rfl,rfl⟩:=trodVars_none hV
 obtain ⟨a0,rfl,rfl,rfl,w0⟩:=Go.ChangeMaps.open_string Try.underlying9 (hval 0 9 v0 rfl rfl) h0
 clear hA0 hval0
 refine (iturns_walk a0  W w0).mono fun e W' ⟨he,hg⟩=>?_
 subst he
 exact ⟨_,rfl,post_quiet (pa:=([]++[])) (pv:=[]) hW' hg (fun _ _ _=>(trodAll_cons_mk (shut_bool Try.underlying4 _) trodAll_mk0)) (fun sp hsp=>(trodAll_cons_mk (Go.ChangeMaps.shut_string Try.underlying9 w0) trodAll_mk0)) (fun _ _=>rfl) (by simp) (ok_one (by kernel_rfl) rfl (okWide_bool_mk Try.underlying4 _))⟩
theorem iturns_over:Rows.invertTurnsRow.holds Try.pinned (OpenSpec.ofChange Rows.invertTurnsSpec):=
 OpenClaim.holds_of_wide 3 Try.f3 rfl rfl rfl rfl rfl rfl rfl ⟨rfl,rfl,rfl,rfl,rfl⟩ rfl rfl rfl rfl rfl (by kernel_rfl) Try.func3 (by kernel_rfl)
  (of_decide_eq_true (by kernel_rfl)) (by unfold Func.isWrapper;first | (rw [if_pos (by decide +kernel)];kernel_rfl) | (rw [if_neg (by decide +kernel)];exact ⟨rfl,rfl⟩))
  (fun os started H enc _=>iturns_lifted os started H enc)
theorem iturns_holds:Rows.InvertTurnsSaid:=
 iturns_over
#print axioms iturns_holds
end Go.Proofs.Ytagkbbcpbebapaa
