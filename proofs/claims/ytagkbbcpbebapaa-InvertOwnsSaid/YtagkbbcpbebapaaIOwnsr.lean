/- InvertOwns, for every input: it returns true, and its argument reads behind the call as it did: the turned operation is new memory: written over, it leaves the operation as it was. No condition. -/
import Derived.Test.YtagkbbcpbebapaaIcr
import Derived.Test.YtagkbbcpbebapaaIdr
import Derived.Test.YtagkbbcpbebapaaObr
import Derived.Test.YtagkbbcpbebapaaWar
import Derived.Test.YtagkbbcpbebapaaZgr
import Derived.ChangeMaps5
namespace Go.Proofs.Ytagkbbcpbebapaa
open Go.ChangeShapes Go.WideShapes Go.ChangeAt Go.RowKit Go.Maps
set_option linter.unusedVariables false
set_option linter.unusedSimpArgs false
theorem neq_errT (n:Int) (w:World):(binOp .neq 31 (err n) .nilIface).run Try.prog w=.ok (.bool true) w:=by kernel_rfl
set_option maxRecDepth 100000 in
set_option maxHeartbeats 16000000 in
theorem iowns_walk (s1:ByteArray) (w:World) (hs1:s1.size≤maxLen) :
  Calls Try.prog 6 #[.string s1] w fun e w'=>e=.returned (.bool true)∧Only [] w w':=by
 have hs1':s1.size≤9223372036854775807:=by unfold maxLen at hs1;omega
 clear hs1
 go_enter Try.func6,Try.ntmps6
 go_wp2_with fail
 refine (alive10_any w).mono ?_
 rintro e w0 ⟨rfl,o0⟩
 have HO:=Hd o0
 clear o0
 obtain ⟨R1,hR⟩:∃ R,R=parseS s1.data.toList:=⟨_,rfl⟩
 have K1:=parsed_any s1 w0 hs1'
 rw [← hR] at K1
 have HR1:=Hd hR
 clear hR
 go_wp2_with fail
 refine K1.mono ?_
 rintro e w0a ⟨sn1,a11,a21,a31,a41,l11,l21,l31,l41,c11,c21,c31,c41,rfl,hok,o1⟩
 replace HO:=Hd (HO.out.trans o1 (by simp))
 (try replace HX1:=Hd (o1.heap HX1.out (by simp)))
 (try replace HX2:=Hd (o1.heap HX2.out (by simp)))
 (try replace HOK1:=Hd (fun d h=>(HOK1.out d h).kept o1 (by simp) (fun _ h=>h)))
 (try replace HOK2:=Hd (fun d h=>(HOK2.out d h).kept o1 (by simp) (fun _ h=>h)))
 (try replace HDV1:=Hd (HDV1.out.kept o1 (by simp) (fun _ h=>h)))
 (try replace HDV2:=Hd (HDV2.out.kept o1 (by simp) (fun _ h=>h)))
 (try replace HDV3:=Hd (HDV3.out.kept o1 (by simp) (fun _ h=>h)))
 (try replace HDV4:=Hd (HDV4.out.kept o1 (by simp) (fun _ h=>h)))
 (try replace HA1:=Hd (o1.heap HA1.out (by simp)))
 (try replace HA2:=Hd (o1.heap HA2.out (by simp)))
 (try replace HA3:=Hd (o1.heap HA3.out (by simp)))
 (try replace HA4:=Hd (o1.heap HA4.out (by simp)))
 (try replace HI1:=Hd (o1.heap HI1.out (by simp)))
 (try replace HI2:=Hd (o1.heap HI2.out (by simp)))
 (try replace HP1:=Hd (HP1.out.kept o1 (by simp)))
 (try replace HP2:=Hd (HP2.out.kept o1 (by simp)))
 (try replace HP3:=Hd (HP3.out.kept o1 (by simp)))
 (try replace HP4:=Hd (HP4.out.kept o1 (by simp)))
 (try replace HP5:=Hd (HP5.out.kept o1 (by simp)))
 have HOK1:=Hd hok
 clear K1 o1 hok
 go_upto_region 4 with (fail)
 have oA:=(Only.refl [] w0a).alloc (.cells #[.string sn1,.slice a11 l11 c11,.slice a21 l21 c21,.slice a31 l31 c31,.slice a41 l41 c41] 27)
 have hA:=heap_new w0a (.cells #[.string sn1,.slice a11 l11 c11,.slice a21 l21 c21,.slice a31 l31 c31,.slice a41 l41 c41] 27)
 obtain ⟨gd1,hgd⟩:∃ g,g=w0a.heap.size:=⟨_,rfl⟩
 rw [← hgd] at hA⊢
 generalize w0a.alloc (.cells #[.string sn1,.slice a11 l11 c11,.slice a21 l21 c21,.slice a31 l31 c31,.slice a41 l41 c41] 27)=w1 at oA hA⊢
 replace HO:=Hd (HO.out.trans oA (by simp))
 (try replace HX1:=Hd (oA.heap HX1.out (by simp)))
 (try replace HX2:=Hd (oA.heap HX2.out (by simp)))
 (try replace HOK1:=Hd (fun d h=>(HOK1.out d h).kept oA (by simp) (fun _ h=>h)))
 (try replace HOK2:=Hd (fun d h=>(HOK2.out d h).kept oA (by simp) (fun _ h=>h)))
 (try replace HDV1:=Hd (HDV1.out.kept oA (by simp) (fun _ h=>h)))
 (try replace HDV2:=Hd (HDV2.out.kept oA (by simp) (fun _ h=>h)))
 (try replace HDV3:=Hd (HDV3.out.kept oA (by simp) (fun _ h=>h)))
 (try replace HDV4:=Hd (HDV4.out.kept oA (by simp) (fun _ h=>h)))
 (try replace HA1:=Hd (oA.heap HA1.out (by simp)))
 (try replace HA2:=Hd (oA.heap HA2.out (by simp)))
 (try replace HA3:=Hd (oA.heap HA3.out (by simp)))
 (try replace HA4:=Hd (oA.heap HA4.out (by simp)))
 (try replace HI1:=Hd (oA.heap HI1.out (by simp)))
 (try replace HI2:=Hd (oA.heap HI2.out (by simp)))
 (try replace HP1:=Hd (HP1.out.kept oA (by simp)))
 (try replace HP2:=Hd (HP2.out.kept oA (by simp)))
 (try replace HP3:=Hd (HP3.out.kept oA (by simp)))
 (try replace HP4:=Hd (HP4.out.kept oA (by simp)))
 (try replace HP5:=Hd (HP5.out.kept oA (by simp)))
 have HA1:=Hd hA
 clear oA hA hgd
 cases R1 with
 | error q=>
  rw [show isOk (Except.error q:Except (Nat×Nat) Df)=false from rfl]
  go_wp2_with fail
  go_ret
  exact ⟨rfl,HO.out⟩
 | ok d1=>
  rw [show isOk (Except.ok d1:Except (Nat×Nat) Df)=true from rfl]
  have HRR:=Hd (show parseS s1.data.toList=.ok d1 from HR1.out.symm)
  have HDV1:=Hd (HOK1.out d1 rfl)
  have HWH1:=Hd (parse_whole HR1.out.symm)
  have HPL1:=Hd (parse_plain HR1.out.symm)
  have HGD1:=Hd (parse_good HR1.out.symm)
  clear HOK1 HR1
  go_upto_region 6 with (fail)
  have y0:w1.cell? ⟨gd1,0,none⟩=some (.string sn1):=cell_at 0 HA1.out
  have y1:w1.cell? ⟨gd1,1,none⟩=some (.slice a11 l11 c11):=cell_at 1 HA1.out
  have y2:w1.cell? ⟨gd1,2,none⟩=some (.slice a21 l21 c21):=cell_at 2 HA1.out
  have y3:w1.cell? ⟨gd1,3,none⟩=some (.slice a31 l31 c31):=cell_at 3 HA1.out
  have y4:w1.cell? ⟨gd1,4,none⟩=some (.slice a41 l41 c41):=cell_at 4 HA1.out
  have KT:=oturn_any HDV1.out HWH1.out HPL1.out
  go_wp2_with fail
  refine KT.mono ?_
  rintro e w1a ⟨sn2,a12,a22,a32,a42,l12,l22,l32,l42,c12,c22,c32,c42,rfl,hto,o1⟩
  have HT0:=Hd o1
  have HTO:=Hd hto
  clear KT hto o1 y0 y1 y2 y3 y4
  cases hT:okT d1 with
  | false=>
   rw [if_neg (show ¬ (false=true) by decide)]
   have HO1:=Hd (HO.out.trans HT0.out (by simp))
   clear hT HTO HT0
   go_upto_region 7 with (fail)
   have oA:=(Only.refl [] w1a).alloc (.cells #[.string sn2,.slice a12 l12 c12,.slice a22 l22 c22,.slice a32 l32 c32,.slice a42 l42 c42] 27)
   generalize w1a.alloc (.cells #[.string sn2,.slice a12 l12 c12,.slice a22 l22 c22,.slice a32 l32 c32,.slice a42 l42 c42] 27)=w2 at oA⊢
   replace HO:=Hd (HO1.out.trans oA (by simp))
   clear oA HO1
   have q1:=fun w=>neq_errT 13 w
   go_wp2_with fail
   go_ret
   exact ⟨rfl,HO.out⟩
  | true=>
   rw [if_pos (rfl:true=true)]
   obtain ⟨hl12,hto⟩:=HTO.out hT
   have hl480:l12≤480:=by have:=HWH1.out.plen;omega
   clear hT HTO hl12
   go_upto_region 7 with (fail)
   have oA:=(Only.refl [] w1a).alloc (.cells #[.string sn2,.slice a12 l12 c12,.slice a22 l22 c22,.slice a32 l32 c32,.slice a42 l42 c42] 27)
   have hA:=heap_new w1a (.cells #[.string sn2,.slice a12 l12 c12,.slice a22 l22 c22,.slice a32 l32 c32,.slice a42 l42 c42] 27)
   obtain ⟨gd2,hgd⟩:∃ g,g=w1a.heap.size:=⟨_,rfl⟩
   rw [← hgd] at hA⊢
   generalize w1a.alloc (.cells #[.string sn2,.slice a12 l12 c12,.slice a22 l22 c22,.slice a32 l32 c32,.slice a42 l42 c42] 27)=w2 at oA hA⊢
   have HT2:=Hd (HT0.out.trans oA (by simp))
   have hnz:=hto.1.kept oA (by simp) (fun _ h=>h)
   have hzs:=ZSsV.kept oA (by simp) (fun _ h=>h) hto.2
   have hbs:=HWH1.out.size
   have KZ:=zs_all 1000000 (Nat.le_refl _) (tuB d1.body) (by unfold tuB;rw [tuB_size];omega) w2 w1.heap.size _ (fun b=>w1.heap.size≤b) (fun _ h=>h) hzs
   have HA2:=Hd hA
   have HNZ:=Hd hnz
   have q1:=neq_nilT
   have y3:w2.cell? ⟨gd2,3,none⟩=some (.slice a32 l32 c32):=cell_at 3 hA
   clear oA hA hgd hto hnz hzs hbs HT0
   go_wp2_with fail
   refine KZ.mono ?_
   rintro e w3 ⟨rfl,hz⟩
   have HT3:=Hd (Zr.only HT2.out hz)
   have hA3:=hz.rest _ _ _ _ HA2.out (by decide) (by decide)
   obtain ⟨ap,lp,cp,hnv,hnz⟩:=HNZ.out
   cases hnv
   have hnz3:l12=0∨∃ g cur,a12=some ⟨g,0,none⟩∧w1.heap.size≤g∧w3.heap[g]?=some (.cells cur 9 (0,0))∧l12≤cur.size:=
    hnz.imp id fun ⟨g,cur,e1,e2,e3,e4⟩=>⟨g,cur,e1,e2,hz.rest _ _ _ _ e3 (by decide) (by decide),e4⟩
   have HA3:=Hd hA3
   have HN3:=Hd hnz3
   have y1:w3.cell? ⟨gd2,1,none⟩=some (.slice a12 l12 c12):=cell_at 1 hA3
   clear KZ hz hA3 hnz hnz3 HA2 HNZ HT2 y3
   go_wp2_with fail
   obtain ⟨wo,hwo⟩:∃ wo:World,wo=w1:=⟨_,rfl⟩
   go_loopw [32] (fun ix wr=>∃ j:Nat,j≤l12∧ix=.int .i64 (j:Int)∧Hid (Only [] wo wr)∧Hid (wr.heap[gd2]?=some (.cells #[.string sn2,.slice a12 l12 c12,.slice a22 l22 c22,.slice a32 l32 c32,.slice a42 l42 c42] 27 (0,0)))∧
    Hid (l12=0∨∃ g cur,a12=some ⟨g,0,none⟩∧wo.heap.size≤g∧wr.heap[g]?=some (.cells cur 9 (0,0))∧l12≤cur.size)) (fun ix _=>l12 - (intOf ix).toNat)
   case atStart=>exact ⟨0,Nat.zero_le _,rfl,by rw [hwo];exact HT3,HA3,by rw [hwo];exact HN3⟩
   case round=>
    clear y1 HN3 HA3 HT3
    obtain ⟨j,hjn,rfl,HT,HA,HN⟩:=hrel
    subst hwo
    have y1:wr.cell? ⟨gd2,1,none⟩=some (.slice a12 l12 c12):=cell_at 1 HA.out
    by_cases hlt:j < l12
    ·have hlt':(j:Int) < (l12:Int):=by omega
     have j0:(0:Int)≤(j:Int):=by omega
     obtain ⟨g,cur,e1,e2,e3,e4⟩:∃ g cur,a12=some ⟨g,0,none⟩∧wo.heap.size≤g∧wr.heap[g]?=some (.cells cur 9 (0,0))∧l12≤cur.size:=by
      rcases HN.out with h | h
      ·omega
      ·exact h
     obtain ⟨u,hu⟩:∃ u,wr.cell? ⟨g,j,none⟩=some u:=⟨_,by rw [cell_at _ e3];exact Array.getElem?_eq_getElem (by omega)⟩
     have fu:=free_at j e3
     have hne:gd2≠g:=fun e=>by
      subst e
      have h:=HA.out
      rw [e3] at h
      injection h with h
      injection h with _ h _
      exact absurd h (by decide)
     have hb:=heap_cell (i:=j) (.string ⟨#[63]⟩) e3
     have oz:Only [g] wr (wr.setCell ⟨g,j,none⟩ (.string ⟨#[63]⟩)):=(Only.refl _ _).setCell (.inl (by simp)) _
     have HT':=Hd (HT.out.trans oz (fun k hk=>.inr (by rw [List.mem_singleton.1 hk];exact e2)))
     have HA':=Hd (oz.heap HA.out (by simpa using hne))
     have HN':=Hd (show l12=0∨∃ g2 cur2,a12=some ⟨g2,0,none⟩∧wo.heap.size≤g2∧(wr.setCell ⟨g,j,none⟩ (.string ⟨#[63]⟩)).heap[g2]?=some (.cells cur2 9 (0,0))∧l12≤cur2.size from .inr ⟨g,_,e1,e2,hb,by rw [Array.size_setIfInBounds];exact e4⟩)
     have HE:=Hd e1
     rw [e1] at y1
     clear e1 e3 e4 hb oz hne HN HT HA
     go_wp2_with fail
     go_roundw
     case rel=>exact ⟨j+1,by omega,by go_num,HT',HA',HN'⟩
     case measure=>simp [intOf];omega
    ·obtain rfl:j=l12:=by omega
     replace HO:=Hd (HO.out.trans HT.out (by simp))
     replace HA1:=Hd (HT.out.heap HA1.out (by simp))
     replace HDV1:=Hd (HDV1.out.kept HT.out (by simp) (fun _ h=>h))
     have K1:=parsed_any s1 wr hs1'
     rw [HRR.out] at K1
     clear HRR HT HA HN
     go_wp2_with fail
     refine K1.mono ?_
     rintro e w4 ⟨sn4,a14,a24,a34,a44,l14,l24,l34,l44,c14,c24,c34,c44,rfl,hok,o1⟩
     replace HO:=Hd (HO.out.trans o1 (by simp))
     (try replace HX1:=Hd (o1.heap HX1.out (by simp)))
     (try replace HX2:=Hd (o1.heap HX2.out (by simp)))
     (try replace HOK1:=Hd (fun d h=>(HOK1.out d h).kept o1 (by simp) (fun _ h=>h)))
     (try replace HOK2:=Hd (fun d h=>(HOK2.out d h).kept o1 (by simp) (fun _ h=>h)))
     (try replace HDV1:=Hd (HDV1.out.kept o1 (by simp) (fun _ h=>h)))
     (try replace HDV2:=Hd (HDV2.out.kept o1 (by simp) (fun _ h=>h)))
     (try replace HDV3:=Hd (HDV3.out.kept o1 (by simp) (fun _ h=>h)))
     (try replace HDV4:=Hd (HDV4.out.kept o1 (by simp) (fun _ h=>h)))
     (try replace HA1:=Hd (o1.heap HA1.out (by simp)))
     (try replace HA2:=Hd (o1.heap HA2.out (by simp)))
     (try replace HA3:=Hd (o1.heap HA3.out (by simp)))
     (try replace HA4:=Hd (o1.heap HA4.out (by simp)))
     (try replace HI1:=Hd (o1.heap HI1.out (by simp)))
     (try replace HI2:=Hd (o1.heap HI2.out (by simp)))
     (try replace HP1:=Hd (HP1.out.kept o1 (by simp)))
     (try replace HP2:=Hd (HP2.out.kept o1 (by simp)))
     (try replace HP3:=Hd (HP3.out.kept o1 (by simp)))
     (try replace HP4:=Hd (HP4.out.kept o1 (by simp)))
     (try replace HP5:=Hd (HP5.out.kept o1 (by simp)))
     have HDV4:=Hd (hok d1 rfl)
     clear K1 o1 hok y1
     go_upto_region 16 with (fail)
     have oA:=(Only.refl [] w4).alloc (.cells #[.string sn4,.slice a14 l14 c14,.slice a24 l24 c24,.slice a34 l34 c34,.slice a44 l44 c44] 27)
     have hA:=heap_new w4 (.cells #[.string sn4,.slice a14 l14 c14,.slice a24 l24 c24,.slice a34 l34 c34,.slice a44 l44 c44] 27)
     obtain ⟨gd4,hgd⟩:∃ g,g=w4.heap.size:=⟨_,rfl⟩
     rw [← hgd] at hA⊢
     generalize w4.alloc (.cells #[.string sn4,.slice a14 l14 c14,.slice a24 l24 c24,.slice a34 l34 c34,.slice a44 l44 c44] 27)=w5 at oA hA⊢
     replace HO:=Hd (HO.out.trans oA (by simp))
     (try replace HX1:=Hd (oA.heap HX1.out (by simp)))
     (try replace HX2:=Hd (oA.heap HX2.out (by simp)))
     (try replace HOK1:=Hd (fun d h=>(HOK1.out d h).kept oA (by simp) (fun _ h=>h)))
     (try replace HOK2:=Hd (fun d h=>(HOK2.out d h).kept oA (by simp) (fun _ h=>h)))
     (try replace HDV1:=Hd (HDV1.out.kept oA (by simp) (fun _ h=>h)))
     (try replace HDV2:=Hd (HDV2.out.kept oA (by simp) (fun _ h=>h)))
     (try replace HDV3:=Hd (HDV3.out.kept oA (by simp) (fun _ h=>h)))
     (try replace HDV4:=Hd (HDV4.out.kept oA (by simp) (fun _ h=>h)))
     (try replace HA1:=Hd (oA.heap HA1.out (by simp)))
     (try replace HA2:=Hd (oA.heap HA2.out (by simp)))
     (try replace HA3:=Hd (oA.heap HA3.out (by simp)))
     (try replace HA4:=Hd (oA.heap HA4.out (by simp)))
     (try replace HI1:=Hd (oA.heap HI1.out (by simp)))
     (try replace HI2:=Hd (oA.heap HI2.out (by simp)))
     (try replace HP1:=Hd (HP1.out.kept oA (by simp)))
     (try replace HP2:=Hd (HP2.out.kept oA (by simp)))
     (try replace HP3:=Hd (HP3.out.kept oA (by simp)))
     (try replace HP4:=Hd (HP4.out.kept oA (by simp)))
     (try replace HP5:=Hd (HP5.out.kept oA (by simp)))
     have HA4:=Hd hA
     clear oA hA hgd
     have hws:=HWH1.out.size
     have hwp:=HWH1.out.plen
     have KS:=same_dv HDV1.out HDV4.out (by omega) (by omega)
     clear HDV1 HDV4 hws hwp
     have y0:w5.cell? ⟨gd1,0,none⟩=some (.string sn1):=cell_at 0 HA1.out
     have y1:w5.cell? ⟨gd1,1,none⟩=some (.slice a11 l11 c11):=cell_at 1 HA1.out
     have y2:w5.cell? ⟨gd1,2,none⟩=some (.slice a21 l21 c21):=cell_at 2 HA1.out
     have y3:w5.cell? ⟨gd1,3,none⟩=some (.slice a31 l31 c31):=cell_at 3 HA1.out
     have y4:w5.cell? ⟨gd1,4,none⟩=some (.slice a41 l41 c41):=cell_at 4 HA1.out
     have z0:w5.cell? ⟨gd4,0,none⟩=some (.string sn4):=cell_at 0 HA4.out
     have z1:w5.cell? ⟨gd4,1,none⟩=some (.slice a14 l14 c14):=cell_at 1 HA4.out
     have z2:w5.cell? ⟨gd4,2,none⟩=some (.slice a24 l24 c24):=cell_at 2 HA4.out
     have z3:w5.cell? ⟨gd4,3,none⟩=some (.slice a34 l34 c34):=cell_at 3 HA4.out
     have z4:w5.cell? ⟨gd4,4,none⟩=some (.slice a44 l44 c44):=cell_at 4 HA4.out
     go_wp2_with fail
     refine KS.mono ?_
     rintro e w6 ⟨rfl,o1⟩
     replace HO:=Hd (HO.out.trans o1 (by simp))
     (try replace HX1:=Hd (o1.heap HX1.out (by simp)))
     (try replace HX2:=Hd (o1.heap HX2.out (by simp)))
     (try replace HOK1:=Hd (fun d h=>(HOK1.out d h).kept o1 (by simp) (fun _ h=>h)))
     (try replace HOK2:=Hd (fun d h=>(HOK2.out d h).kept o1 (by simp) (fun _ h=>h)))
     (try replace HDV1:=Hd (HDV1.out.kept o1 (by simp) (fun _ h=>h)))
     (try replace HDV2:=Hd (HDV2.out.kept o1 (by simp) (fun _ h=>h)))
     (try replace HDV3:=Hd (HDV3.out.kept o1 (by simp) (fun _ h=>h)))
     (try replace HDV4:=Hd (HDV4.out.kept o1 (by simp) (fun _ h=>h)))
     (try replace HA1:=Hd (o1.heap HA1.out (by simp)))
     (try replace HA2:=Hd (o1.heap HA2.out (by simp)))
     (try replace HA3:=Hd (o1.heap HA3.out (by simp)))
     (try replace HA4:=Hd (o1.heap HA4.out (by simp)))
     (try replace HI1:=Hd (o1.heap HI1.out (by simp)))
     (try replace HI2:=Hd (o1.heap HI2.out (by simp)))
     (try replace HP1:=Hd (HP1.out.kept o1 (by simp)))
     (try replace HP2:=Hd (HP2.out.kept o1 (by simp)))
     (try replace HP3:=Hd (HP3.out.kept o1 (by simp)))
     (try replace HP4:=Hd (HP4.out.kept o1 (by simp)))
     (try replace HP5:=Hd (HP5.out.kept o1 (by simp)))
     clear KS o1 y0 y1 y2 y3 y4 z0 z1 z2 z3 z4 HA1 HA4
     go_wp2_with fail
     go_ret
     exact ⟨rfl,HO.out⟩
set_option maxRecDepth 100000 in
theorem iowns_lifted (os:Os) (started:os.Started) (H:Type) (enc:TypeId×Value→H) :
  ReturnsInHanded {} Try.checked os 6 .any (Rows.invertOwnsSpec.pre6 enc Try.prog Try.f6 Rows.invertOwnsRow.domain false) (Rows.invertOwnsSpec.post enc Try.prog Try.f6 false true false false):=by
 refine returnsInHanded_of_change (C:=Try.checked) law_own started (by kernel_rfl) Try.func6
  (ChangeSpec.witness6 (enc:=enc) (C:=Try.checked) false ⟨#[],#[.string ⟨#[]⟩],[]⟩ 8 (by kernel_rfl) (by kernel_rfl) (by kernel_rfl) (by kernel_rfl)) ?_
 intro W base args ds gs before hval0 hW hcnd _
 have hval:∀ (j:Nat) t v,Try.f6.params[j]?=some t→args[j]?=some v→Value.okWide Try.prog W .any base t v:=hval0
 have hW':=hW
 obtain ⟨p,q,hA0,hV,rfl,hfz,hnd⟩:=hW
 have hA:DataW.TrodAll enc Try.prog W 0 (fun _=>true) true Try.f6.params.toList args.toList ds p:=hA0
 rw [Try.params6] at hA hval
 obtain ⟨v0,vs0,d0,ds0,p0,q0,hargs,rfl,rfl,h0,r0⟩:=trodAll_cons hA
 obtain ⟨rfl,rfl,rfl⟩:=trodAll_nil r0
 obtain rfl:args=#[v0]:=by cases args;simp_all
 obtain ⟨rfl,rfl⟩:=trodVars_none hV
 obtain ⟨a0,rfl,rfl,rfl,w0⟩:=Go.ChangeMaps.open_string Try.underlying9 (hval 0 9 v0 rfl rfl) h0
 clear hA0 hval0
 refine (iowns_walk a0  W w0).mono fun e W' ⟨he,hg⟩=>?_
 subst he
 exact ⟨_,rfl,post_quiet (pa:=([]++[])) (pv:=[]) hW' hg (fun _ _ _=>(trodAll_cons_mk (shut_bool Try.underlying4 _) trodAll_mk0)) (fun sp hsp=>(trodAll_cons_mk (Go.ChangeMaps.shut_string Try.underlying9 w0) trodAll_mk0)) (fun _ _=>rfl) (by simp) (ok_one (by kernel_rfl) rfl (okWide_bool_mk Try.underlying4 _))⟩
theorem iowns_over:Rows.invertOwnsRow.holds Try.pinned (OpenSpec.ofChange Rows.invertOwnsSpec):=
 OpenClaim.holds_of_wide 6 Try.f6 rfl rfl rfl rfl rfl rfl rfl ⟨rfl,rfl,rfl,rfl,rfl⟩ rfl rfl rfl rfl rfl (by kernel_rfl) Try.func6 (by kernel_rfl)
  (of_decide_eq_true (by kernel_rfl)) (by unfold Func.isWrapper;first | (rw [if_pos (by decide +kernel)];kernel_rfl) | (rw [if_neg (by decide +kernel)];exact ⟨rfl,rfl⟩))
  (fun os started H enc _=>iowns_lifted os started H enc)
theorem iowns_holds:Rows.InvertOwnsSaid:=
 iowns_over
#print axioms iowns_holds
end Go.Proofs.Ytagkbbcpbebapaa
