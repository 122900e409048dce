import Derived.Test.YtiaeagpepfmfgaaWar
import Derived.Test.YtiaeagpepfmfgaaZ19r
import Derived.Test.YtiaeagpepfmfgaaQ12r
import Derived.Test.YtiaeagpepfmfgaaZer
namespace Go.Proofs.Ytiaeagpepfmfgaa
open Go.RowKit Go.Maps
set_option linter.unusedSimpArgs false
set_option linter.unusedVariables false
def RBRes (w:World) (gc:Nat) (cv:Value) (x:List Int×VE) (en:Ending) (w':World):Prop:=∃ ve',en=.returned ve'∧RI w w' gc cv x.1 ve' x.2
structure OkD (xs:List St):Prop where
 w:wB xs
 g:gB xs
 few:fewB xs
theorem OkD.mem {xs:List St} {j:Nat} {e:St} (h:OkD xs) (hj:xs[j]?=some e):wS e∧gS e∧fewS e:=by
 have h1:OkB (nmsB xs) xs:=⟨h.w,h.g,h.few,inB_of xs (fun z h=>h)⟩
 exact ⟨(h1.mem hj).w,(h1.mem hj).g,(h1.mem hj).few⟩
def RBP (N:Nat):Prop:=∀ (xs:List St),sizeSs xs≤N→∀ (w:World) (gc:Nat) (cv:Value) (c:List Int) (vs:Value) (B:Nat→Prop) (env:VE) (ve:Value),OCe w cv c→cv.ownBlock=some gc→DW c env→OkD xs→OVe w ve env→SsV w B vs xs→¬ B gc→env.length+sizeSs xs≤1000000→
 Calls Try.prog 25 #[vs,cv,ve] w (RBRes w gc cv (dcB xs (c,env)))
theorem dcS_mk (k:Int) (nm:Sec) (xs:List E) (n:Int) (bd els:List St) (p:Int) (s:List Int×VE):dcS (.mk k nm xs n bd els p) s =
  if k=1 then (s.1,s.2++[(nm,(exVs s.1 (lastE s.2) xs).getD 0 0)])
  else if k=6 then (if (exVs s.1 (lastE s.2) xs).getD 0 0≠0 then (dcB bd s).1 else (dcB els s).1,s.2)
  else if k=7 then (loopA (fun i c=>(dcB bd (c,s.2++[(nm,(i:Int))])).1) n.toNat s.1,s.2)
  else if k=8 then (loopA (fun i c=>(dcB bd (c,s.2++[(nm,n - 1 - (i:Int))])).1) n.toNat s.1,s.2)
  else if k=5 then (swpC s.1 ((exVs s.1 (lastE s.2) xs).getD 0 0) ((exVs s.1 (lastE s.2) xs).getD 1 0),s.2)
  else (chgC k s.1 ((exVs s.1 (lastE s.2) xs).getD 0 0) ((exVs s.1 (lastE s.2) xs).getD 1 0),s.2):=by conv=>lhs;unfold dcS
set_option maxRecDepth 100000 in
set_option maxHeartbeats 32000000 in
theorem dblk9_step (N:Nat) (hNN:N≤1000000) (IS:∀ M,M < N→RBP M):RBP N:=by
 intro xs hN w gc cv c vs B env ve hce hown hdw hok hve hv hBg hel
 obtain ⟨a,cap,rfl,-⟩:=id hv
 obtain ⟨ea,ec,rfl⟩:=hve.shape
 obtain ⟨ccap,ccur,rfl,hcb,-⟩:=hce.blk hown
 have hgc:gc < w.heap.size:=lt_of_heap hcb
 obtain ⟨n,hn⟩:∃ n,n=xs.length:=⟨_,rfl⟩
 obtain ⟨m,hm⟩:∃ m,m=env.length:=⟨_,rfl⟩
 have hlen:=sizeSs_len xs
 have h60:=hdw.cw.len
 rw [← hn] at hlen hv⊢
 rw [← hm] at hve⊢
 rw [h60] at hce hown⊢
 obtain ⟨cv,hcv⟩:∃ v,v=Value.slice (some ⟨gc,0,none⟩) 60 ccap:=⟨_,rfl⟩
 obtain ⟨X,hX⟩:∃ X,X=dcB xs (c,env):=⟨_,rfl⟩
 rw [← hX]
 have HX:=Hd hX
 have HC:=Hd hce
 have HOWN:=Hd hown
 have HDW:=Hd hdw
 have HOK:=Hd hok
 have HV:=Hd hv
 have HE:=Hd hve
 have HN:=Hd hn
 have HM:=Hd hm
 have HEL:=Hd hel
 have HBG:=Hd (show ∀ k∈[gc],¬ B k from fun k hk=>by rw [List.mem_singleton.1 hk];exact hBg)
 have hnb:n≤1000000:=by omega
 have hmb:m≤1000000:=by omega
 clear hX hce hown hdw hok hv hve hn hm hel hcb hBg h60 hcv cv
 go_enter Try.func25,Try.ntmps25
 go_upto_region 1 with (fail)
 go_wp2_with (refine wpList_append_ves rfl (.tmp 15) (.tmp 16) rfl (.slice (some ⟨w.heap.size,0,none⟩) 0 0) (.slice ea m ec) [] env (by rfl) (OVe.empty w) (by rfl) (HE.out.kept ((Only.refl [] w).alloc (.cells #[] 75)) (by simp)) (by rw [← HM.out];simp;omega) ?_;intro a3 c3 w3 h3 x3;have H3:=Hd (And.intro h3 x3);clear h3 x3)
 obtain ⟨h3,x3⟩:=H3.out
 have oE:Only [] w (w.alloc (.cells #[] 75)):=(Only.refl [] w).alloc _
 have sE:(w.alloc (.cells #[] 75)).heap.size=w.heap.size+1:=Array.size_push _
 have o3:Only [] w w3:=oE.trans x3.only (fun q hq=>.inr (by
  have:=hq
  simp [Value.ownBlock] at this
  omega))
 have hri:RI w w3 gc (.slice (some ⟨gc,0,none⟩) 60 ccap) c (.slice a3 (0+m) c3) env:=⟨o3.mono (by simp),HC.out.kept o3 (by simp),HOWN.out,by simpa [← HM.out] using h3,fun q hq=>by
  rcases x3.src q (by simpa [← HM.out] using hq) with e | e
  ·have:=e
   simp [Value.ownBlock] at this
   omega
  ·omega⟩
 have HRI:=Hd hri
 clear h3 x3 H3 oE sE o3 hri
 go_loopw [2,7] (fun ev ix wr=>∃ (j:Nat) (cj:List Int) (ej:VE),j≤n∧ix=.int .i64 (j:Int)∧Hid (RI w wr gc (.slice (some ⟨gc,0,none⟩) 60 ccap) cj ev ej)∧Hid (DW cj ej)∧Hid (X=dcB (xs.drop j) (cj,ej))∧ej.length+sizeSs (xs.drop j)≤1000000) (fun _ ix _=>n - (intOf ix).toNat)
 case atStart=>exact ⟨0,c,env,Nat.zero_le _,rfl,by first | exact HRI | (exact Hd (by simpa using HRI.out)) | (exact Hd (by simpa [← HM.out] using HRI.out)),HDW,Hd (by rw [HX.out,List.drop_zero]),by rw [List.drop_zero];exact HEL.out⟩
 case round=>
  obtain ⟨j,cj,ej,hjn,rfl,HI,HD,HXj,hejl⟩:=hrel
  obtain ⟨ua,uc,rfl⟩:=HI.out.e.shape
  by_cases hlt:j < n
  ·have hlt':(j:Int) < (n:Int):=by omega
   have j0:(0:Int)≤(j:Int):=by omega
   have HVj:=Hd (HV.out.kept HI.out.o HBG.out (fun _ h=>h))
   obtain ⟨-,gr,k,nm,ys,nn,bd,els,p,a0,c0,a1,c1,a2,c2,rfl,he,x0,x1,x2,x3,x4,x5,x6,hv0,hv1,hv2⟩:=HVj.out.elem hlt
   have hT1:=sizeSs_mem he
   have hdrop:=sizeSs_drop he
   rw [hdrop] at hejl
   obtain ⟨hwe,hge,hfe⟩:=HOK.out.mem he
   have hDs:=dcS_w _ (cj,ej) hwe hge hfe HD.out.cw HD.out.nw HD.out.nf
   rw [sizeS_mk] at hT1 hejl hDs
   have hXj:=HXj.out
   rw [dcB_drop he] at hXj
   unfold wS at hwe
   unfold gS at hge
   unfold fewS at hfe
   obtain ⟨hks,-,hwx,hwb,hwel⟩:=hwe
   obtain ⟨hgnm,hgx,hgb,hgel⟩:=hge
   obtain ⟨hfew,hfb,hfel⟩:=hfe
   obtain ⟨XR,hXR⟩:∃ XR,XR=dcS (.mk k nm ys nn bd els p) (cj,ej):=⟨_,rfl⟩
   rw [← hXR] at hXj hDs
   rw [dcS_mk] at hXR
   dsimp only at hXR
   obtain ⟨L0,hL0⟩:∃ L,L=ys.length:=⟨_,rfl⟩
   obtain ⟨L1,hL1⟩:∃ L,L=bd.length:=⟨_,rfl⟩
   obtain ⟨L2,hL2⟩:∃ L,L=els.length:=⟨_,rfl⟩
   obtain ⟨sn,hsn⟩:∃ sn,sn=strOf nm:=⟨_,rfl⟩
   rw [← hL0] at x2 hv0 hks
   rw [← hL1] at x4 hv1
   rw [← hL2] at x5 hv2
   rw [← hsn] at x1
   have HXJ:=Hd hXj
   have HXR:=Hd hXR
   have HDS:=Hd hDs
   have HSN:=Hd hsn
   have HL0:=Hd hL0
   have HWX:=Hd (And.intro hwx hgx)
   have HB1:=Hd (show OkD bd from ⟨hwb,hgb,hfb⟩)
   have HB2:=Hd (show OkD els from ⟨hwel,hgel,hfel⟩)
   have HFEW:=Hd hfew
   have HNMF:=Hd (show nm≠[102,97,108,115,101] from fun e=>hgnm (by rw [e];decide))
   have HV0:=Hd hv0
   have HV1:=Hd hv1
   have HV2:=Hd hv2
   have HKS:=Hd hks
   have hsz1:sizeSs bd < N:=by omega
   have hsz2:sizeSs els < N:=by omega
   have hej1:ej.length+1+sizeSs bd≤1000000:=by omega
   have hej2:ej.length+1+sizeSs els≤1000000:=by omega
   have hej3:ej.length+1+sizeSs (xs.drop (j+1))≤1000000:=by omega
   clear he hT1 hdrop hejl hXj hXR hDs hL0 hL1 hL2 hsn hv0 hv1 hv2 hks hwx hgx hwb hgb hfb hwel hgel hfel hfew hgnm HXj HVj
   go_upto_region 6 with (fail)
   have oA:=(Only.refl [] wr).alloc (.cells #[.int .i64 k,.string sn,.slice a0 L0 c0,.int .i64 nn,.slice a1 L1 c1,.slice a2 L2 c2,.int .i64 p] 102)
   have hb:=heap_new wr (.cells #[.int .i64 k,.string sn,.slice a0 L0 c0,.int .i64 nn,.slice a1 L1 c1,.slice a2 L2 c2,.int .i64 p] 102)
   have hgw:gc < wr.heap.size:=Nat.lt_of_lt_of_le hgc HI.out.o.size
   generalize wr.alloc (.cells #[.int .i64 k,.string sn,.slice a0 L0 c0,.int .i64 nn,.slice a1 L1 c1,.slice a2 L2 c2,.int .i64 p] 102)=w1 at oA hb⊢
   obtain ⟨gb,hgb⟩:∃ gb,gb=wr.heap.size:=⟨_,rfl⟩
   rw [← hgb] at hb hgw⊢
   replace HI:=Hd (HI.out.quiet oA)
   replace HV0:=Hd (HV0.out.quiet oA)
   replace HV1:=Hd (HV1.out.quiet oA)
   replace HV2:=Hd (HV2.out.quiet oA)
   have HBX:=Hd hb
   have hne:gb∉[gc]:=by simp;omega
   have y0:w1.cell? ⟨gb,0,none⟩=some (.int .i64 k):=cell_at 0 hb
   have y2:w1.cell? ⟨gb,2,none⟩=some (.slice a0 L0 c0):=cell_at 2 hb
   clear oA hb hgb x0 x1 x2 x3 x4 x5 x6
   by_cases hone:L0=1
   ·as_aux_lemma=>
    subst hone
    obtain ⟨y,rfl⟩:∃ y,ys=[y]:=by
     have hl:=HL0.out
     rcases ys with _ | ⟨y,_ | ⟨z,zs⟩⟩
     ·simp at hl
     ·exact ⟨y,rfl⟩
     ·simp at hl
    obtain ⟨gq,rfl,hgq,hes⟩:=HV0.out.nth (j:=0) (s:=y) rfl
    obtain ⟨k1,n1,sn1,b1,l1,d1,p1,hev1,hat1⟩:=hes.at5 (j:=0) rfl
    have z0:w1.cell? ⟨gq,0,none⟩=some (.int .i64 k1):=hat1.c0
    have z1:w1.cell? ⟨gq,1,none⟩=some (.int .i64 n1):=hat1.c1
    have z2:w1.cell? ⟨gq,2,none⟩=some (.string sn1):=hat1.c2
    have z3:w1.cell? ⟨gq,3,none⟩=some (.slice b1 l1 d1):=hat1.c3
    have z4:w1.cell? ⟨gq,4,none⟩=some (.int .i64 p1):=hat1.c4
    have wy:wE y:=by have h:=HWX.out.1;unfold wL at h;exact h.1
    have gy:gE y:=by have h:=HWX.out.2;unfold gL at h;exact h.1
    have K1:=rvalue_any (HI.out.ce.cer HD.out.cw) HI.out.e HD.out.nf HD.out.nw (by omega) wy gy hev1
    have hxr:=HXR.out
    rw [exVs_one] at hxr
    generalize exV cj (lastE ej) y=V at K1 hxr
    have HXR2:=Hd hxr
    clear hxr hes hat1 hev1 wy gy HXR
    go_wp2_with fail
    refine K1.mono ?_
    rintro en w5 ⟨rfl,o5⟩
    replace HI:=Hd (HI.out.quiet o5)
    replace HV1:=Hd (HV1.out.quiet o5)
    replace HV2:=Hd (HV2.out.quiet o5)
    replace HBX:=Hd (o5.heap HBX.out (by simp))
    clear K1 o5 y0 y2 z0 z1 z2 z3 z4
    have y2:w5.cell? ⟨gb,2,none⟩=some (.slice (some ⟨gq,0,none⟩) 1 c0):=cell_at 2 HBX.out
    go_upto_region 12 with (fail)
    go_cut [11] from 50 to 55 (fun sz wx=>sz=.bool (decide (inC V))∧wx=w5)
    case first=>
     by_cases h0:0≤V
     ·by_cases h1:V < 60
      ·go_wp2_with fail
       go_meet
       exact ⟨congrArg Value.bool (decide_eq_true (show inC V by omega)).symm,rfl⟩
      ·go_wp2_with fail
       go_meet
       exact ⟨congrArg Value.bool (decide_eq_false (show ¬ inC V by omega)).symm,rfl⟩
     ·go_wp2_with fail
      go_meet
      exact ⟨congrArg Value.bool (decide_eq_false (show ¬ inC V by omega)).symm,rfl⟩
    case rest=>
     obtain ⟨rfl,hwx⟩:=hcut
     obtain rfl:=hwx.symm
     by_cases h1:k=1
     ·as_aux_lemma=>
      subst h1
      have hxr:=HXR2.out
      rw [if_pos rfl] at hxr
      have HXR3:=Hd hxr
      have y0:w5.cell? ⟨gb,0,none⟩=some (.int .i64 1):=cell_at 0 HBX.out
      have y1:w5.cell? ⟨gb,1,none⟩=some (.string sn):=cell_at 1 HBX.out
      have hO6:Only [] w5 (w5.alloc (.cells #[.string sn,.int .i64 V] 75)):=(Only.refl [] w5).alloc _
      have hN6:=heap_new w5 (.cells #[.string sn,.int .i64 V] 75)
      have HO6:=Hd hO6
      have HN6:=Hd hN6
      clear hO6 hN6 hxr y2
      go_wp2_with (refine wpList_append_ve rfl (.tmp 60) (.tmp 65) rfl (.slice ua ej.length uc) ej (by rfl) (HI.out.e.kept HO6.out (by simp)) w5.heap.size 1 (by rfl) (nm,V) (by rw [← HSN.out];exact cell_at 0 HN6.out) (cell_at 1 HN6.out) (by omega) ?_;intro a7 c7 w7 h7 x7;have H7:=Hd (And.intro h7 x7);clear h7 x7)
      obtain ⟨h7,x7⟩:=H7.out
      have hds:=HDS.out
      rw [HXR3.out] at hds
      refine ⟨⟨j+1,cj,ej++[(nm,V)],by omega,by first | rfl | go_num,Hd ((HI.out.quiet HO6.out).grow hgc h7 x7),Hd ⟨hds.1,hds.2.1,hds.2.2.1⟩,Hd (by rw [HXJ.out,HXR3.out]),?_⟩,?_⟩
      ·rw [List.length_append]
       exact hej3
      ·simp [intOf]
       omega
     ·as_aux_lemma=>
      have h6:k=6:=by rcases HKS.out with h | h | h<;>omega
      subst h6
      have hxr:=HXR2.out
      rw [if_neg h1,if_pos rfl] at hxr
      have HXR3:=Hd hxr
      have y0:w5.cell? ⟨gb,0,none⟩=some (.int .i64 6):=cell_at 0 HBX.out
      have y4:w5.cell? ⟨gb,4,none⟩=some (.slice a1 L1 c1):=cell_at 4 HBX.out
      have y5:w5.cell? ⟨gb,5,none⟩=some (.slice a2 L2 c2):=cell_at 5 HBX.out
      clear hxr y2 h1
      by_cases hV:V=0
      ·have KX:=IS _ hsz2 els (Nat.le_refl _) w5 gc _ cj _ B ej _ HI.out.ce HI.out.own HD.out HB2.out HI.out.e HV2.out (HBG.out gc (by simp)) (by omega)
       have hV':(V != 0)=false:=by simp [hV]
       have HX4:=Hd (show XR=((dcB els (cj,ej)).1,ej) by rw [HXR3.out,if_neg (by simpa using hV)])
       clear hV
       go_wp2_with fail
       refine KX.mono ?_
       rintro en w6 ⟨ve6,rfl,hb6⟩
       have HI6:=Hd (HI.out.cells hb6.o hb6.ce)
       have hds:=HDS.out
       rw [HX4.out] at hds
       have HDW6:=Hd (show DW _ ej from ⟨hds.1,HD.out.nw,HD.out.nf⟩)
       clear KX hb6 hds y0 y4 y5
       go_wp2_with fail
       refine ⟨⟨j+1,_,ej,by omega,by first | rfl | go_num,HI6,HDW6,Hd (by rw [HXJ.out,HX4.out]),by omega⟩,?_⟩
       simp [intOf]
       omega
      ·have KX:=IS _ hsz1 bd (Nat.le_refl _) w5 gc _ cj _ B ej _ HI.out.ce HI.out.own HD.out HB1.out HI.out.e HV1.out (HBG.out gc (by simp)) (by omega)
       have hV':(V != 0)=true:=by simpa using hV
       have HX4:=Hd (show XR=((dcB bd (cj,ej)).1,ej) by rw [HXR3.out,if_pos hV])
       clear hV
       go_wp2_with fail
       refine KX.mono ?_
       rintro en w6 ⟨ve6,rfl,hb6⟩
       have HI6:=Hd (HI.out.cells hb6.o hb6.ce)
       have hds:=HDS.out
       rw [HX4.out] at hds
       have HDW6:=Hd (show DW _ ej from ⟨hds.1,HD.out.nw,HD.out.nf⟩)
       clear KX hb6 hds y0 y4 y5
       go_wp2_with fail
       refine ⟨⟨j+1,_,ej,by omega,by first | rfl | go_num,HI6,HDW6,Hd (by rw [HXJ.out,HX4.out]),by omega⟩,?_⟩
       simp [intOf]
       omega
   ·by_cases hzero:L0=0
    ·as_aux_lemma=>
     subst hzero
     have h78:k=7∨k=8:=by rcases HKS.out with h | h | h<;>omega
     have hnn:=HFEW.out h78
     obtain ⟨Q,rfl⟩:∃ Q:Nat,nn=(Q:Int):=⟨nn.toNat,by omega⟩
     have hq64:Q≤64:=by omega
     have HNF:=Hd (fun (v:Int)=>show NoF (ej++[(nm,v)]) from fun x hx=>by
      rcases List.mem_append.1 hx with h | h
      ·exact HD.out.nf x h
      ·rw [List.mem_singleton.1 h];exact HNMF.out)
     have HI1:=Hd (IS _ hsz1 bd (Nat.le_refl _))
     have HOK1:=HI
     have y3:w1.cell? ⟨gb,3,none⟩=some (.int .i64 (Q:Int)):=cell_at 3 HBX.out
     rcases h78 with h7 | h8
     ·as_aux_lemma=>
      subst h7
      have hxr:=HXR.out
      rw [if_neg (by decide),if_neg (by decide),if_pos rfl] at hxr
      have HXR2:=Hd (show XR=(loopA (fun i c=>(dcB bd (c,ej++[(nm,(i:Int))])).1) Q cj,ej) from hxr)
      clear hxr HXR hnn
      go_wp2_with fail
      clear y0 y2 y3
      go_loopw [13] (fun ix wz=>∃ (q:Nat) (cq:List Int),q≤Q∧ix=.int .i64 (q:Int)∧Hid (RI w wz gc (.slice (some ⟨gc,0,none⟩) 60 ccap) cq (.slice ua ej.length uc) ej)∧Hid (CW cq)∧Hid (cq=loopA (fun i c=>(dcB bd (c,ej++[(nm,(i:Int))])).1) q cj)∧Hid (Only [gc] w1 wz)) (fun ix _=>Q - (intOf ix).toNat)
      case atStart=>exact ⟨0,cj,Nat.zero_le _,rfl,HI,Hd HD.out.cw,Hd rfl,Hd (Only.refl _ _)⟩
      case round=>
       obtain ⟨q,cq,hqQ,rfl,HIq,HCQ,HEQ,HOq⟩:=hrel
       have y3:wr.cell? ⟨gb,3,none⟩=some (.int .i64 (Q:Int)):=cell_kept HOq.out (cell_at 3 HBX.out) hne
       by_cases hlq:q < Q
       ·have hlq':(q:Int) < (Q:Int):=by omega
        go_upto_region 38 with (fail)
        have oD:Only [] wr wr.drew:=(Only.refl [] wr).drew
        have HBW:=Hd (HOq.out.heap HBX.out hne)
        refine wp_region_held_drew (S:=fun w'=>w'.cell? ⟨gb,4,none⟩=some (.slice a1 L1 c1)∧w'.cell? ⟨gb,1,none⟩=some (.string sn)) (by kernel_rfl) ⟨cell_kept oD (cell_at 4 HBW.out) (by simp),cell_kept oD (cell_at 1 HBW.out) (by simp)⟩ (fun hH=>?_)
        replace HBW:=Hd (oD.heap HBW.out (by simp))
        replace HIq:=Hd (HIq.out.quiet oD)
        have HVq:=Hd (HV1.out.kept (HOq.out.trans oD (by simp)) HBG.out (fun _ h=>h))
        have HOd:=Hd (HOq.out.trans oD (by simp))
        clear oD
        generalize wr.drew=wd at HIq HVq HBW HOd hH⊢
        have HOZ:=Hd (Only.refl [] wd)
        refine tk 0 hH ?_
        refine tk 1 hH ?_
        refine tk 2 hH ?_
        refine tk 4 hH ?_
        refine tk 6 hH ?_
        refine tk 7 hH ?_
        refine tk 8 hH ?_
        refine tk 9 hH ?_
        refine wpAnyH_ready (rs:=[3,10]) (by kernel_rfl) (by simp) ?_
        refine ready_two rfl rfl (fun K hK=>?_) (fun K hK=>?_)
        ·as_aux_lemma=>
         go_simp
         have oE:=(Only.refl [] wd).alloc (.cells #[] 75)
         have hE:=OVe.empty wd
         have sE:(wd.alloc (.cells #[] 75)).heap.size=wd.heap.size+1:=Array.size_push _
         obtain ⟨ge,hge⟩:∃ ge,ge=wd.heap.size:=⟨_,rfl⟩
         rw [← hge] at hE sE⊢
         generalize wd.alloc (.cells #[] 75)=wa at oE hE sE⊢
         have hgez:wd.heap.size≤ge:=by rw [hge];exact HOZ.out.size
         replace HOZ:=Hd (HOZ.out.trans oE (by simp))
         have HEm:=Hd hE
         skip
         have HSE:=Hd sE
         have HGE:=Hd hge
         refine hK.out _ _ ⟨cell_at 4 (HOZ.out.heap HBW.out (by simp)),cell_at 1 (HOZ.out.heap HBW.out (by simp))⟩ (fun hH=>?_)
         clear hK K oE hE sE hge
         refine wpAnyH_ready (rs:=[5,10]) (by kernel_rfl) (by simp) ?_
         refine ready_two rfl rfl (fun K hK=>?_) (fun K hK=>?_)
         ·as_aux_lemma=>
          skip
          refine step_append_ves (by rfl) (.tmp 149) (.tmp 150) (by rfl) (.slice (some ⟨ge,0,none⟩) 0 0) (.slice ua ej.length uc) [] ej (by rfl) HEm.out (by rfl) (HIq.out.e.kept HOZ.out (by simp)) (by simp;omega) (fun a5 c5 wb h5 x5=>?_)
          have o5:Only [] wd wb:=HOZ.out.trans x5.only (fun q hq=>.inr (by
           have:=hq
           simp [Value.ownBlock] at this
           omega))
          have s5:∀ q,(Value.slice a5 (([]:VE).length+ej.length) c5).ownBlock=some q→wd.heap.size≤q:=fun q hq=>by
           rcases x5.src q hq with e | e
           ·have:=e
            simp [Value.ownBlock] at this
            omega
           ·exact Nat.le_trans HOZ.out.size e
          skip
          replace HOZ:=Hd o5
          simp only [List.length_nil,Nat.zero_add,List.nil_append] at h5 s5⊢
          have HA5:=Hd h5
          have HS5:=Hd s5
          refine hK.out _ _ ⟨cell_at 4 (HOZ.out.heap HBW.out (by simp)),cell_at 1 (HOZ.out.heap HBW.out (by simp))⟩ (fun hH=>?_)
          clear hK K o5 h5 s5 x5 HEm
          refine rd 10 (fun K hK=>?_)
          go_simp
          have oN:=(Only.refl [] wb).alloc (.cells #[.string sn,.int .i64 (q:Int)] 75)
          have hN:=heap_new wb (.cells #[.string sn,.int .i64 (q:Int)] 75)
          have sN:(wb.alloc (.cells #[.string sn,.int .i64 (q:Int)] 75)).heap.size=wb.heap.size+1:=Array.size_push _
          obtain ⟨gn,hgn⟩:∃ gn,gn=wb.heap.size:=⟨_,rfl⟩
          rw [← hgn] at hN sN⊢
          generalize wb.alloc (.cells #[.string sn,.int .i64 (q:Int)] 75)=wc at oN hN sN⊢
          replace HOZ:=Hd (HOZ.out.trans oN (by simp))
          have HNn:=Hd hN
          replace HA5:=Hd (HA5.out.kept oN (by simp))
          have HSN2:=Hd sN
          have HGN:=Hd hgn
          refine hK.out _ _ ⟨cell_at 4 (HOZ.out.heap HBW.out (by simp)),cell_at 1 (HOZ.out.heap HBW.out (by simp))⟩ (fun hH=>?_)
          clear hK K oN hN sN hgn
          refine rd 11 (fun K hK=>?_)
          refine step_append_ve (by rfl) (.tmp 151) (.tmp 156) (by rfl) (.slice a5 ej.length c5) ej (by rfl) HA5.out gn 1 (by rfl) (nm,(q:Int)) (by rw [← HSN.out];exact cell_at 0 HNn.out) (cell_at 1 HNn.out) (by omega) (fun a6 c6 wz h6 x6=>?_)
          have o6:Only [] wd wz:=HOZ.out.trans x6.only (fun q hq=>.inr (HS5.out q (by simpa using hq)))
          replace HOZ:=Hd o6
          have HA6:=Hd h6
          refine hK.out _ _ ⟨cell_at 4 (HOZ.out.heap HBW.out (by simp)),cell_at 1 (HOZ.out.heap HBW.out (by simp))⟩ (fun hH=>?_)
          clear hK K o6 h6 x6 HA5 HS5 HNn
          refine rd 12 (fun K hK=>?_)
          go_simp
          refine (HI1.out wz gc _ cq _ B (ej++[(nm,(q:Int))]) _ (HIq.out.quiet HOZ.out).ce HIq.out.own ⟨HCQ.out,by rw [lastE_snoc];exact HD.out.nw.put _ (by unfold n64;omega),HNF.out _⟩ HB1.out HA6.out (HVq.out.quiet HOZ.out) (HBG.out gc (by simp)) (by rw [List.length_append];exact hej1)).mono ?_
          rintro en w7 ⟨ve7,rfl,hb7⟩
          have hce7:=hb7.ce
          have ho7:=hb7.o
          have HI7:=Hd ((HIq.out.quiet HOZ.out).cells ho7 hce7)
          have HO7:=Hd ((HOd.out.trans HOZ.out (by simp)).trans ho7 (fun k hk=>.inl hk))
          have hbx7:=ho7.heap (HOZ.out.heap HBW.out (by simp)) hne
          have HW7:=Hd (dcB_w bd (cq,ej++[(nm,(q:Int))]) HB1.out.w HB1.out.g HB1.out.few HCQ.out (by rw [lastE_snoc];exact HD.out.nw.put _ (by unfold n64;omega)) (HNF.out _)).1
          have HEQ7:=Hd (show (dcB bd (cq,ej++[(nm,(q:Int))])).1=loopA (fun i c=>(dcB bd (c,ej++[(nm,(i:Int))])).1) (q+1) cj by rw [HEQ.out];rfl)
          refine hK.out _ _ ⟨cell_at 4 hbx7,cell_at 1 hbx7⟩ (fun hH=>?_)
          clear hK K hb7 hce7 ho7 hbx7 hH
          refine wpAnyH_done (by kernel_rfl) ?_ _
          go_wp2_with fail
          refine ⟨⟨q+1,_,by omega,(by first | rfl | go_num),HI7,HW7,HEQ7,HO7⟩,?_⟩
          first | (simp [intOf];done) | (simp [intOf];omega)
         ·as_aux_lemma=>
          go_simp
          have oN:=(Only.refl [] wa).alloc (.cells #[.string sn,.int .i64 (q:Int)] 75)
          have hN:=heap_new wa (.cells #[.string sn,.int .i64 (q:Int)] 75)
          have sN:(wa.alloc (.cells #[.string sn,.int .i64 (q:Int)] 75)).heap.size=wa.heap.size+1:=Array.size_push _
          obtain ⟨gn,hgn⟩:∃ gn,gn=wa.heap.size:=⟨_,rfl⟩
          rw [← hgn] at hN sN⊢
          generalize wa.alloc (.cells #[.string sn,.int .i64 (q:Int)] 75)=wb at oN hN sN⊢
          replace HOZ:=Hd (HOZ.out.trans oN (by simp))
          have HNn:=Hd hN
          replace HEm:=Hd (HEm.out.kept oN (by simp))
          have HSN2:=Hd sN
          have HGN:=Hd hgn
          refine hK.out _ _ ⟨cell_at 4 (HOZ.out.heap HBW.out (by simp)),cell_at 1 (HOZ.out.heap HBW.out (by simp))⟩ (fun hH=>?_)
          clear hK K oN hN sN hgn
          refine rd 5 (fun K hK=>?_)
          refine step_append_ves (by rfl) (.tmp 149) (.tmp 150) (by rfl) (.slice (some ⟨ge,0,none⟩) 0 0) (.slice ua ej.length uc) [] ej (by rfl) HEm.out (by rfl) (HIq.out.e.kept HOZ.out (by simp)) (by simp;omega) (fun a5 c5 wc h5 x5=>?_)
          have o5:Only [] wd wc:=HOZ.out.trans x5.only (fun q hq=>.inr (by
           have:=hq
           simp [Value.ownBlock] at this
           omega))
          have s5:∀ q,(Value.slice a5 (([]:VE).length+ej.length) c5).ownBlock=some q→wd.heap.size≤q:=fun q hq=>by
           rcases x5.src q hq with e | e
           ·have:=e
            simp [Value.ownBlock] at this
            omega
           ·exact Nat.le_trans HOZ.out.size e
          replace HNn:=Hd (x5.only.heap HNn.out (by have q1:=HSE.out;have q2:=HGN.out;have q3:=HSN2.out;have q4:=HGE.out;simp [Value.ownBlock];omega))
          replace HOZ:=Hd o5
          simp only [List.length_nil,Nat.zero_add,List.nil_append] at h5 s5⊢
          have HA5:=Hd h5
          have HS5:=Hd s5
          refine hK.out _ _ ⟨cell_at 4 (HOZ.out.heap HBW.out (by simp)),cell_at 1 (HOZ.out.heap HBW.out (by simp))⟩ (fun hH=>?_)
          clear hK K o5 h5 s5 x5 HEm
          refine rd 11 (fun K hK=>?_)
          refine step_append_ve (by rfl) (.tmp 151) (.tmp 156) (by rfl) (.slice a5 ej.length c5) ej (by rfl) HA5.out gn 1 (by rfl) (nm,(q:Int)) (by rw [← HSN.out];exact cell_at 0 HNn.out) (cell_at 1 HNn.out) (by omega) (fun a6 c6 wz h6 x6=>?_)
          have o6:Only [] wd wz:=HOZ.out.trans x6.only (fun q hq=>.inr (HS5.out q (by simpa using hq)))
          replace HOZ:=Hd o6
          have HA6:=Hd h6
          refine hK.out _ _ ⟨cell_at 4 (HOZ.out.heap HBW.out (by simp)),cell_at 1 (HOZ.out.heap HBW.out (by simp))⟩ (fun hH=>?_)
          clear hK K o6 h6 x6 HA5 HS5 HNn
          refine rd 12 (fun K hK=>?_)
          go_simp
          refine (HI1.out wz gc _ cq _ B (ej++[(nm,(q:Int))]) _ (HIq.out.quiet HOZ.out).ce HIq.out.own ⟨HCQ.out,by rw [lastE_snoc];exact HD.out.nw.put _ (by unfold n64;omega),HNF.out _⟩ HB1.out HA6.out (HVq.out.quiet HOZ.out) (HBG.out gc (by simp)) (by rw [List.length_append];exact hej1)).mono ?_
          rintro en w7 ⟨ve7,rfl,hb7⟩
          have hce7:=hb7.ce
          have ho7:=hb7.o
          have HI7:=Hd ((HIq.out.quiet HOZ.out).cells ho7 hce7)
          have HO7:=Hd ((HOd.out.trans HOZ.out (by simp)).trans ho7 (fun k hk=>.inl hk))
          have hbx7:=ho7.heap (HOZ.out.heap HBW.out (by simp)) hne
          have HW7:=Hd (dcB_w bd (cq,ej++[(nm,(q:Int))]) HB1.out.w HB1.out.g HB1.out.few HCQ.out (by rw [lastE_snoc];exact HD.out.nw.put _ (by unfold n64;omega)) (HNF.out _)).1
          have HEQ7:=Hd (show (dcB bd (cq,ej++[(nm,(q:Int))])).1=loopA (fun i c=>(dcB bd (c,ej++[(nm,(i:Int))])).1) (q+1) cj by rw [HEQ.out];rfl)
          refine hK.out _ _ ⟨cell_at 4 hbx7,cell_at 1 hbx7⟩ (fun hH=>?_)
          clear hK K hb7 hce7 ho7 hbx7 hH
          refine wpAnyH_done (by kernel_rfl) ?_ _
          go_wp2_with fail
          refine ⟨⟨q+1,_,by omega,(by first | rfl | go_num),HI7,HW7,HEQ7,HO7⟩,?_⟩
          first | (simp [intOf];done) | (simp [intOf];omega)
        ·as_aux_lemma=>
         go_simp
         have oN:=(Only.refl [] wd).alloc (.cells #[.string sn,.int .i64 (q:Int)] 75)
         have hN:=heap_new wd (.cells #[.string sn,.int .i64 (q:Int)] 75)
         have sN:(wd.alloc (.cells #[.string sn,.int .i64 (q:Int)] 75)).heap.size=wd.heap.size+1:=Array.size_push _
         obtain ⟨gn,hgn⟩:∃ gn,gn=wd.heap.size:=⟨_,rfl⟩
         rw [← hgn] at hN sN⊢
         generalize wd.alloc (.cells #[.string sn,.int .i64 (q:Int)] 75)=wa at oN hN sN⊢
         replace HOZ:=Hd (HOZ.out.trans oN (by simp))
         have HNn:=Hd hN
         skip
         have HSN2:=Hd sN
         have HGN:=Hd hgn
         refine hK.out _ _ ⟨cell_at 4 (HOZ.out.heap HBW.out (by simp)),cell_at 1 (HOZ.out.heap HBW.out (by simp))⟩ (fun hH=>?_)
         clear hK K oN hN sN hgn
         refine rd 3 (fun K hK=>?_)
         go_simp
         have oE:=(Only.refl [] wa).alloc (.cells #[] 75)
         have hE:=OVe.empty wa
         have sE:(wa.alloc (.cells #[] 75)).heap.size=wa.heap.size+1:=Array.size_push _
         obtain ⟨ge,hge⟩:∃ ge,ge=wa.heap.size:=⟨_,rfl⟩
         rw [← hge] at hE sE⊢
         generalize wa.alloc (.cells #[] 75)=wb at oE hE sE⊢
         have hgez:wd.heap.size≤ge:=by rw [hge];exact HOZ.out.size
         replace HOZ:=Hd (HOZ.out.trans oE (by simp))
         have HEm:=Hd hE
         replace HNn:=Hd (oE.heap HNn.out (by simp))
         have HSE:=Hd sE
         have HGE:=Hd hge
         refine hK.out _ _ ⟨cell_at 4 (HOZ.out.heap HBW.out (by simp)),cell_at 1 (HOZ.out.heap HBW.out (by simp))⟩ (fun hH=>?_)
         clear hK K oE hE sE hge
         refine rd 5 (fun K hK=>?_)
         refine step_append_ves (by rfl) (.tmp 149) (.tmp 150) (by rfl) (.slice (some ⟨ge,0,none⟩) 0 0) (.slice ua ej.length uc) [] ej (by rfl) HEm.out (by rfl) (HIq.out.e.kept HOZ.out (by simp)) (by simp;omega) (fun a5 c5 wc h5 x5=>?_)
         have o5:Only [] wd wc:=HOZ.out.trans x5.only (fun q hq=>.inr (by
          have:=hq
          simp [Value.ownBlock] at this
          omega))
         have s5:∀ q,(Value.slice a5 (([]:VE).length+ej.length) c5).ownBlock=some q→wd.heap.size≤q:=fun q hq=>by
          rcases x5.src q hq with e | e
          ·have:=e
           simp [Value.ownBlock] at this
           omega
          ·exact Nat.le_trans HOZ.out.size e
         replace HNn:=Hd (x5.only.heap HNn.out (by have q1:=HSE.out;have q2:=HGN.out;have q3:=HSN2.out;have q4:=HGE.out;simp [Value.ownBlock];omega))
         replace HOZ:=Hd o5
         simp only [List.length_nil,Nat.zero_add,List.nil_append] at h5 s5⊢
         have HA5:=Hd h5
         have HS5:=Hd s5
         refine hK.out _ _ ⟨cell_at 4 (HOZ.out.heap HBW.out (by simp)),cell_at 1 (HOZ.out.heap HBW.out (by simp))⟩ (fun hH=>?_)
         clear hK K o5 h5 s5 x5 HEm
         refine rd 11 (fun K hK=>?_)
         refine step_append_ve (by rfl) (.tmp 151) (.tmp 156) (by rfl) (.slice a5 ej.length c5) ej (by rfl) HA5.out gn 1 (by rfl) (nm,(q:Int)) (by rw [← HSN.out];exact cell_at 0 HNn.out) (cell_at 1 HNn.out) (by omega) (fun a6 c6 wz h6 x6=>?_)
         have o6:Only [] wd wz:=HOZ.out.trans x6.only (fun q hq=>.inr (HS5.out q (by simpa using hq)))
         replace HOZ:=Hd o6
         have HA6:=Hd h6
         refine hK.out _ _ ⟨cell_at 4 (HOZ.out.heap HBW.out (by simp)),cell_at 1 (HOZ.out.heap HBW.out (by simp))⟩ (fun hH=>?_)
         clear hK K o6 h6 x6 HA5 HS5 HNn
         refine rd 12 (fun K hK=>?_)
         go_simp
         refine (HI1.out wz gc _ cq _ B (ej++[(nm,(q:Int))]) _ (HIq.out.quiet HOZ.out).ce HIq.out.own ⟨HCQ.out,by rw [lastE_snoc];exact HD.out.nw.put _ (by unfold n64;omega),HNF.out _⟩ HB1.out HA6.out (HVq.out.quiet HOZ.out) (HBG.out gc (by simp)) (by rw [List.length_append];exact hej1)).mono ?_
         rintro en w7 ⟨ve7,rfl,hb7⟩
         have hce7:=hb7.ce
         have ho7:=hb7.o
         have HI7:=Hd ((HIq.out.quiet HOZ.out).cells ho7 hce7)
         have HO7:=Hd ((HOd.out.trans HOZ.out (by simp)).trans ho7 (fun k hk=>.inl hk))
         have hbx7:=ho7.heap (HOZ.out.heap HBW.out (by simp)) hne
         have HW7:=Hd (dcB_w bd (cq,ej++[(nm,(q:Int))]) HB1.out.w HB1.out.g HB1.out.few HCQ.out (by rw [lastE_snoc];exact HD.out.nw.put _ (by unfold n64;omega)) (HNF.out _)).1
         have HEQ7:=Hd (show (dcB bd (cq,ej++[(nm,(q:Int))])).1=loopA (fun i c=>(dcB bd (c,ej++[(nm,(i:Int))])).1) (q+1) cj by rw [HEQ.out];rfl)
         refine hK.out _ _ ⟨cell_at 4 hbx7,cell_at 1 hbx7⟩ (fun hH=>?_)
         clear hK K hb7 hce7 ho7 hbx7 hH
         refine wpAnyH_done (by kernel_rfl) ?_ _
         go_wp2_with fail
         refine ⟨⟨q+1,_,by omega,(by first | rfl | go_num),HI7,HW7,HEQ7,HO7⟩,?_⟩
         first | (simp [intOf];done) | (simp [intOf];omega)
       ·obtain rfl:q=Q:=by omega
        have HX4:=Hd (show XR=(cq,ej) by rw [HXR2.out,HEQ.out])
        have HDWq:=Hd (show DW cq ej from ⟨HCQ.out,HD.out.nw,HD.out.nf⟩)
        go_wp2_with fail
        refine ⟨⟨j+1,cq,ej,by omega,by first | rfl | go_num,HIq,HDWq,Hd (by rw [HXJ.out,HX4.out]),by omega⟩,?_⟩
        simp [intOf]
        omega
     ·as_aux_lemma=>
      subst h8
      have hxr:=HXR.out
      rw [if_neg (by decide),if_neg (by decide),if_neg (by decide),if_pos rfl] at hxr
      have HXR2:=Hd (show XR=(loopA (fun i c=>(dcB bd (c,ej++[(nm,(Q:Int) - 1 - (i:Int))])).1) Q cj,ej) from hxr)
      have hw1:wrap64 ((Q:Int) - 1)=(Q:Int) - 1:=by unfold wrap64;omega
      clear hxr HXR hnn
      go_wp2_with fail
      clear y0 y2 y3
      go_loopw [14] (fun ix wz=>∃ (q:Nat) (cq:List Int),q≤Q∧ix=.int .i64 ((Q:Int) - 1 - (q:Int))∧Hid (RI w wz gc (.slice (some ⟨gc,0,none⟩) 60 ccap) cq (.slice ua ej.length uc) ej)∧Hid (CW cq)∧Hid (cq=loopA (fun i c=>(dcB bd (c,ej++[(nm,(Q:Int) - 1 - (i:Int))])).1) q cj)∧Hid (Only [gc] w1 wz)) (fun ix _=>(intOf ix+1).toNat)
      case atStart=>exact ⟨0,cj,Nat.zero_le _,by first | rfl | (simp;done) | go_num,HI,Hd HD.out.cw,Hd rfl,Hd (Only.refl _ _)⟩
      case round=>
       obtain ⟨q,cq,hqQ,rfl,HIq,HCQ,HEQ,HOq⟩:=hrel
       by_cases hlq:q < Q
       ·have hlq':(0:Int)≤(Q:Int) - 1 - (q:Int):=by omega
        have hw2:wrap64 ((Q:Int) - 1 - (q:Int) - 1)=(Q:Int) - 1 - ((q+1:Nat):Int):=by unfold wrap64;omega
        go_upto_region 43 with (fail)
        have oD:Only [] wr wr.drew:=(Only.refl [] wr).drew
        have HBW:=Hd (HOq.out.heap HBX.out hne)
        refine wp_region_held_drew (S:=fun w'=>w'.cell? ⟨gb,4,none⟩=some (.slice a1 L1 c1)∧w'.cell? ⟨gb,1,none⟩=some (.string sn)) (by kernel_rfl) ⟨cell_kept oD (cell_at 4 HBW.out) (by simp),cell_kept oD (cell_at 1 HBW.out) (by simp)⟩ (fun hH=>?_)
        replace HBW:=Hd (oD.heap HBW.out (by simp))
        replace HIq:=Hd (HIq.out.quiet oD)
        have HVq:=Hd (HV1.out.kept (HOq.out.trans oD (by simp)) HBG.out (fun _ h=>h))
        have HOd:=Hd (HOq.out.trans oD (by simp))
        clear oD
        generalize wr.drew=wd at HIq HVq HBW HOd hH⊢
        have HOZ:=Hd (Only.refl [] wd)
        refine tk 0 hH ?_
        refine tk 1 hH ?_
        refine tk 2 hH ?_
        refine tk 4 hH ?_
        refine tk 6 hH ?_
        refine tk 7 hH ?_
        refine tk 8 hH ?_
        refine tk 9 hH ?_
        refine wpAnyH_ready (rs:=[3,10]) (by kernel_rfl) (by simp) ?_
        refine ready_two rfl rfl (fun K hK=>?_) (fun K hK=>?_)
        ·as_aux_lemma=>
         go_simp
         have oE:=(Only.refl [] wd).alloc (.cells #[] 75)
         have hE:=OVe.empty wd
         have sE:(wd.alloc (.cells #[] 75)).heap.size=wd.heap.size+1:=Array.size_push _
         obtain ⟨ge,hge⟩:∃ ge,ge=wd.heap.size:=⟨_,rfl⟩
         rw [← hge] at hE sE⊢
         generalize wd.alloc (.cells #[] 75)=wa at oE hE sE⊢
         have hgez:wd.heap.size≤ge:=by rw [hge];exact HOZ.out.size
         replace HOZ:=Hd (HOZ.out.trans oE (by simp))
         have HEm:=Hd hE
         skip
         have HSE:=Hd sE
         have HGE:=Hd hge
         refine hK.out _ _ ⟨cell_at 4 (HOZ.out.heap HBW.out (by simp)),cell_at 1 (HOZ.out.heap HBW.out (by simp))⟩ (fun hH=>?_)
         clear hK K oE hE sE hge
         refine wpAnyH_ready (rs:=[5,10]) (by kernel_rfl) (by simp) ?_
         refine ready_two rfl rfl (fun K hK=>?_) (fun K hK=>?_)
         ·as_aux_lemma=>
          skip
          refine step_append_ves (by rfl) (.tmp 171) (.tmp 172) (by rfl) (.slice (some ⟨ge,0,none⟩) 0 0) (.slice ua ej.length uc) [] ej (by rfl) HEm.out (by rfl) (HIq.out.e.kept HOZ.out (by simp)) (by simp;omega) (fun a5 c5 wb h5 x5=>?_)
          have o5:Only [] wd wb:=HOZ.out.trans x5.only (fun q hq=>.inr (by
           have:=hq
           simp [Value.ownBlock] at this
           omega))
          have s5:∀ q,(Value.slice a5 (([]:VE).length+ej.length) c5).ownBlock=some q→wd.heap.size≤q:=fun q hq=>by
           rcases x5.src q hq with e | e
           ·have:=e
            simp [Value.ownBlock] at this
            omega
           ·exact Nat.le_trans HOZ.out.size e
          skip
          replace HOZ:=Hd o5
          simp only [List.length_nil,Nat.zero_add,List.nil_append] at h5 s5⊢
          have HA5:=Hd h5
          have HS5:=Hd s5
          refine hK.out _ _ ⟨cell_at 4 (HOZ.out.heap HBW.out (by simp)),cell_at 1 (HOZ.out.heap HBW.out (by simp))⟩ (fun hH=>?_)
          clear hK K o5 h5 s5 x5 HEm
          refine rd 10 (fun K hK=>?_)
          go_simp
          have oN:=(Only.refl [] wb).alloc (.cells #[.string sn,.int .i64 ((Q:Int) - 1 - (q:Int))] 75)
          have hN:=heap_new wb (.cells #[.string sn,.int .i64 ((Q:Int) - 1 - (q:Int))] 75)
          have sN:(wb.alloc (.cells #[.string sn,.int .i64 ((Q:Int) - 1 - (q:Int))] 75)).heap.size=wb.heap.size+1:=Array.size_push _
          obtain ⟨gn,hgn⟩:∃ gn,gn=wb.heap.size:=⟨_,rfl⟩
          rw [← hgn] at hN sN⊢
          generalize wb.alloc (.cells #[.string sn,.int .i64 ((Q:Int) - 1 - (q:Int))] 75)=wc at oN hN sN⊢
          replace HOZ:=Hd (HOZ.out.trans oN (by simp))
          have HNn:=Hd hN
          replace HA5:=Hd (HA5.out.kept oN (by simp))
          have HSN2:=Hd sN
          have HGN:=Hd hgn
          refine hK.out _ _ ⟨cell_at 4 (HOZ.out.heap HBW.out (by simp)),cell_at 1 (HOZ.out.heap HBW.out (by simp))⟩ (fun hH=>?_)
          clear hK K oN hN sN hgn
          refine rd 11 (fun K hK=>?_)
          refine step_append_ve (by rfl) (.tmp 173) (.tmp 178) (by rfl) (.slice a5 ej.length c5) ej (by rfl) HA5.out gn 1 (by rfl) (nm,((Q:Int) - 1 - (q:Int))) (by rw [← HSN.out];exact cell_at 0 HNn.out) (cell_at 1 HNn.out) (by omega) (fun a6 c6 wz h6 x6=>?_)
          have o6:Only [] wd wz:=HOZ.out.trans x6.only (fun q hq=>.inr (HS5.out q (by simpa using hq)))
          replace HOZ:=Hd o6
          have HA6:=Hd h6
          refine hK.out _ _ ⟨cell_at 4 (HOZ.out.heap HBW.out (by simp)),cell_at 1 (HOZ.out.heap HBW.out (by simp))⟩ (fun hH=>?_)
          clear hK K o6 h6 x6 HA5 HS5 HNn
          refine rd 12 (fun K hK=>?_)
          go_simp
          refine (HI1.out wz gc _ cq _ B (ej++[(nm,((Q:Int) - 1 - (q:Int)))]) _ (HIq.out.quiet HOZ.out).ce HIq.out.own ⟨HCQ.out,by rw [lastE_snoc];exact HD.out.nw.put _ (by unfold n64;omega),HNF.out _⟩ HB1.out HA6.out (HVq.out.quiet HOZ.out) (HBG.out gc (by simp)) (by rw [List.length_append];exact hej1)).mono ?_
          rintro en w7 ⟨ve7,rfl,hb7⟩
          have hce7:=hb7.ce
          have ho7:=hb7.o
          have HI7:=Hd ((HIq.out.quiet HOZ.out).cells ho7 hce7)
          have HO7:=Hd ((HOd.out.trans HOZ.out (by simp)).trans ho7 (fun k hk=>.inl hk))
          have hbx7:=ho7.heap (HOZ.out.heap HBW.out (by simp)) hne
          have HW7:=Hd (dcB_w bd (cq,ej++[(nm,((Q:Int) - 1 - (q:Int)))]) HB1.out.w HB1.out.g HB1.out.few HCQ.out (by rw [lastE_snoc];exact HD.out.nw.put _ (by unfold n64;omega)) (HNF.out _)).1
          have HEQ7:=Hd (show (dcB bd (cq,ej++[(nm,((Q:Int) - 1 - (q:Int)))])).1=loopA (fun i c=>(dcB bd (c,ej++[(nm,(Q:Int) - 1 - (i:Int))])).1) (q+1) cj by rw [HEQ.out];rfl)
          refine hK.out _ _ ⟨cell_at 4 hbx7,cell_at 1 hbx7⟩ (fun hH=>?_)
          clear hK K hb7 hce7 ho7 hbx7 hH
          refine wpAnyH_done (by kernel_rfl) ?_ _
          go_wp2_with fail
          refine ⟨⟨q+1,_,by omega,(by first | rfl | (rw [hw2]) | go_num),HI7,HW7,HEQ7,HO7⟩,?_⟩
          first | (simp [intOf];done) | (simp [intOf];omega)
         ·as_aux_lemma=>
          go_simp
          have oN:=(Only.refl [] wa).alloc (.cells #[.string sn,.int .i64 ((Q:Int) - 1 - (q:Int))] 75)
          have hN:=heap_new wa (.cells #[.string sn,.int .i64 ((Q:Int) - 1 - (q:Int))] 75)
          have sN:(wa.alloc (.cells #[.string sn,.int .i64 ((Q:Int) - 1 - (q:Int))] 75)).heap.size=wa.heap.size+1:=Array.size_push _
          obtain ⟨gn,hgn⟩:∃ gn,gn=wa.heap.size:=⟨_,rfl⟩
          rw [← hgn] at hN sN⊢
          generalize wa.alloc (.cells #[.string sn,.int .i64 ((Q:Int) - 1 - (q:Int))] 75)=wb at oN hN sN⊢
          replace HOZ:=Hd (HOZ.out.trans oN (by simp))
          have HNn:=Hd hN
          replace HEm:=Hd (HEm.out.kept oN (by simp))
          have HSN2:=Hd sN
          have HGN:=Hd hgn
          refine hK.out _ _ ⟨cell_at 4 (HOZ.out.heap HBW.out (by simp)),cell_at 1 (HOZ.out.heap HBW.out (by simp))⟩ (fun hH=>?_)
          clear hK K oN hN sN hgn
          refine rd 5 (fun K hK=>?_)
          refine step_append_ves (by rfl) (.tmp 171) (.tmp 172) (by rfl) (.slice (some ⟨ge,0,none⟩) 0 0) (.slice ua ej.length uc) [] ej (by rfl) HEm.out (by rfl) (HIq.out.e.kept HOZ.out (by simp)) (by simp;omega) (fun a5 c5 wc h5 x5=>?_)
          have o5:Only [] wd wc:=HOZ.out.trans x5.only (fun q hq=>.inr (by
           have:=hq
           simp [Value.ownBlock] at this
           omega))
          have s5:∀ q,(Value.slice a5 (([]:VE).length+ej.length) c5).ownBlock=some q→wd.heap.size≤q:=fun q hq=>by
           rcases x5.src q hq with e | e
           ·have:=e
            simp [Value.ownBlock] at this
            omega
           ·exact Nat.le_trans HOZ.out.size e
          replace HNn:=Hd (x5.only.heap HNn.out (by have q1:=HSE.out;have q2:=HGN.out;have q3:=HSN2.out;have q4:=HGE.out;simp [Value.ownBlock];omega))
          replace HOZ:=Hd o5
          simp only [List.length_nil,Nat.zero_add,List.nil_append] at h5 s5⊢
          have HA5:=Hd h5
          have HS5:=Hd s5
          refine hK.out _ _ ⟨cell_at 4 (HOZ.out.heap HBW.out (by simp)),cell_at 1 (HOZ.out.heap HBW.out (by simp))⟩ (fun hH=>?_)
          clear hK K o5 h5 s5 x5 HEm
          refine rd 11 (fun K hK=>?_)
          refine step_append_ve (by rfl) (.tmp 173) (.tmp 178) (by rfl) (.slice a5 ej.length c5) ej (by rfl) HA5.out gn 1 (by rfl) (nm,((Q:Int) - 1 - (q:Int))) (by rw [← HSN.out];exact cell_at 0 HNn.out) (cell_at 1 HNn.out) (by omega) (fun a6 c6 wz h6 x6=>?_)
          have o6:Only [] wd wz:=HOZ.out.trans x6.only (fun q hq=>.inr (HS5.out q (by simpa using hq)))
          replace HOZ:=Hd o6
          have HA6:=Hd h6
          refine hK.out _ _ ⟨cell_at 4 (HOZ.out.heap HBW.out (by simp)),cell_at 1 (HOZ.out.heap HBW.out (by simp))⟩ (fun hH=>?_)
          clear hK K o6 h6 x6 HA5 HS5 HNn
          refine rd 12 (fun K hK=>?_)
          go_simp
          refine (HI1.out wz gc _ cq _ B (ej++[(nm,((Q:Int) - 1 - (q:Int)))]) _ (HIq.out.quiet HOZ.out).ce HIq.out.own ⟨HCQ.out,by rw [lastE_snoc];exact HD.out.nw.put _ (by unfold n64;omega),HNF.out _⟩ HB1.out HA6.out (HVq.out.quiet HOZ.out) (HBG.out gc (by simp)) (by rw [List.length_append];exact hej1)).mono ?_
          rintro en w7 ⟨ve7,rfl,hb7⟩
          have hce7:=hb7.ce
          have ho7:=hb7.o
          have HI7:=Hd ((HIq.out.quiet HOZ.out).cells ho7 hce7)
          have HO7:=Hd ((HOd.out.trans HOZ.out (by simp)).trans ho7 (fun k hk=>.inl hk))
          have hbx7:=ho7.heap (HOZ.out.heap HBW.out (by simp)) hne
          have HW7:=Hd (dcB_w bd (cq,ej++[(nm,((Q:Int) - 1 - (q:Int)))]) HB1.out.w HB1.out.g HB1.out.few HCQ.out (by rw [lastE_snoc];exact HD.out.nw.put _ (by unfold n64;omega)) (HNF.out _)).1
          have HEQ7:=Hd (show (dcB bd (cq,ej++[(nm,((Q:Int) - 1 - (q:Int)))])).1=loopA (fun i c=>(dcB bd (c,ej++[(nm,(Q:Int) - 1 - (i:Int))])).1) (q+1) cj by rw [HEQ.out];rfl)
          refine hK.out _ _ ⟨cell_at 4 hbx7,cell_at 1 hbx7⟩ (fun hH=>?_)
          clear hK K hb7 hce7 ho7 hbx7 hH
          refine wpAnyH_done (by kernel_rfl) ?_ _
          go_wp2_with fail
          refine ⟨⟨q+1,_,by omega,(by first | rfl | (rw [hw2]) | go_num),HI7,HW7,HEQ7,HO7⟩,?_⟩
          first | (simp [intOf];done) | (simp [intOf];omega)
        ·as_aux_lemma=>
         go_simp
         have oN:=(Only.refl [] wd).alloc (.cells #[.string sn,.int .i64 ((Q:Int) - 1 - (q:Int))] 75)
         have hN:=heap_new wd (.cells #[.string sn,.int .i64 ((Q:Int) - 1 - (q:Int))] 75)
         have sN:(wd.alloc (.cells #[.string sn,.int .i64 ((Q:Int) - 1 - (q:Int))] 75)).heap.size=wd.heap.size+1:=Array.size_push _
         obtain ⟨gn,hgn⟩:∃ gn,gn=wd.heap.size:=⟨_,rfl⟩
         rw [← hgn] at hN sN⊢
         generalize wd.alloc (.cells #[.string sn,.int .i64 ((Q:Int) - 1 - (q:Int))] 75)=wa at oN hN sN⊢
         replace HOZ:=Hd (HOZ.out.trans oN (by simp))
         have HNn:=Hd hN
         skip
         have HSN2:=Hd sN
         have HGN:=Hd hgn
         refine hK.out _ _ ⟨cell_at 4 (HOZ.out.heap HBW.out (by simp)),cell_at 1 (HOZ.out.heap HBW.out (by simp))⟩ (fun hH=>?_)
         clear hK K oN hN sN hgn
         refine rd 3 (fun K hK=>?_)
         go_simp
         have oE:=(Only.refl [] wa).alloc (.cells #[] 75)
         have hE:=OVe.empty wa
         have sE:(wa.alloc (.cells #[] 75)).heap.size=wa.heap.size+1:=Array.size_push _
         obtain ⟨ge,hge⟩:∃ ge,ge=wa.heap.size:=⟨_,rfl⟩
         rw [← hge] at hE sE⊢
         generalize wa.alloc (.cells #[] 75)=wb at oE hE sE⊢
         have hgez:wd.heap.size≤ge:=by rw [hge];exact HOZ.out.size
         replace HOZ:=Hd (HOZ.out.trans oE (by simp))
         have HEm:=Hd hE
         replace HNn:=Hd (oE.heap HNn.out (by simp))
         have HSE:=Hd sE
         have HGE:=Hd hge
         refine hK.out _ _ ⟨cell_at 4 (HOZ.out.heap HBW.out (by simp)),cell_at 1 (HOZ.out.heap HBW.out (by simp))⟩ (fun hH=>?_)
         clear hK K oE hE sE hge
         refine rd 5 (fun K hK=>?_)
         refine step_append_ves (by rfl) (.tmp 171) (.tmp 172) (by rfl) (.slice (some ⟨ge,0,none⟩) 0 0) (.slice ua ej.length uc) [] ej (by rfl) HEm.out (by rfl) (HIq.out.e.kept HOZ.out (by simp)) (by simp;omega) (fun a5 c5 wc h5 x5=>?_)
         have o5:Only [] wd wc:=HOZ.out.trans x5.only (fun q hq=>.inr (by
          have:=hq
          simp [Value.ownBlock] at this
          omega))
         have s5:∀ q,(Value.slice a5 (([]:VE).length+ej.length) c5).ownBlock=some q→wd.heap.size≤q:=fun q hq=>by
          rcases x5.src q hq with e | e
          ·have:=e
           simp [Value.ownBlock] at this
           omega
          ·exact Nat.le_trans HOZ.out.size e
         replace HNn:=Hd (x5.only.heap HNn.out (by have q1:=HSE.out;have q2:=HGN.out;have q3:=HSN2.out;have q4:=HGE.out;simp [Value.ownBlock];omega))
         replace HOZ:=Hd o5
         simp only [List.length_nil,Nat.zero_add,List.nil_append] at h5 s5⊢
         have HA5:=Hd h5
         have HS5:=Hd s5
         refine hK.out _ _ ⟨cell_at 4 (HOZ.out.heap HBW.out (by simp)),cell_at 1 (HOZ.out.heap HBW.out (by simp))⟩ (fun hH=>?_)
         clear hK K o5 h5 s5 x5 HEm
         refine rd 11 (fun K hK=>?_)
         refine step_append_ve (by rfl) (.tmp 173) (.tmp 178) (by rfl) (.slice a5 ej.length c5) ej (by rfl) HA5.out gn 1 (by rfl) (nm,((Q:Int) - 1 - (q:Int))) (by rw [← HSN.out];exact cell_at 0 HNn.out) (cell_at 1 HNn.out) (by omega) (fun a6 c6 wz h6 x6=>?_)
         have o6:Only [] wd wz:=HOZ.out.trans x6.only (fun q hq=>.inr (HS5.out q (by simpa using hq)))
         replace HOZ:=Hd o6
         have HA6:=Hd h6
         refine hK.out _ _ ⟨cell_at 4 (HOZ.out.heap HBW.out (by simp)),cell_at 1 (HOZ.out.heap HBW.out (by simp))⟩ (fun hH=>?_)
         clear hK K o6 h6 x6 HA5 HS5 HNn
         refine rd 12 (fun K hK=>?_)
         go_simp
         refine (HI1.out wz gc _ cq _ B (ej++[(nm,((Q:Int) - 1 - (q:Int)))]) _ (HIq.out.quiet HOZ.out).ce HIq.out.own ⟨HCQ.out,by rw [lastE_snoc];exact HD.out.nw.put _ (by unfold n64;omega),HNF.out _⟩ HB1.out HA6.out (HVq.out.quiet HOZ.out) (HBG.out gc (by simp)) (by rw [List.length_append];exact hej1)).mono ?_
         rintro en w7 ⟨ve7,rfl,hb7⟩
         have hce7:=hb7.ce
         have ho7:=hb7.o
         have HI7:=Hd ((HIq.out.quiet HOZ.out).cells ho7 hce7)
         have HO7:=Hd ((HOd.out.trans HOZ.out (by simp)).trans ho7 (fun k hk=>.inl hk))
         have hbx7:=ho7.heap (HOZ.out.heap HBW.out (by simp)) hne
         have HW7:=Hd (dcB_w bd (cq,ej++[(nm,((Q:Int) - 1 - (q:Int)))]) HB1.out.w HB1.out.g HB1.out.few HCQ.out (by rw [lastE_snoc];exact HD.out.nw.put _ (by unfold n64;omega)) (HNF.out _)).1
         have HEQ7:=Hd (show (dcB bd (cq,ej++[(nm,((Q:Int) - 1 - (q:Int)))])).1=loopA (fun i c=>(dcB bd (c,ej++[(nm,(Q:Int) - 1 - (i:Int))])).1) (q+1) cj by rw [HEQ.out];rfl)
         refine hK.out _ _ ⟨cell_at 4 hbx7,cell_at 1 hbx7⟩ (fun hH=>?_)
         clear hK K hb7 hce7 ho7 hbx7 hH
         refine wpAnyH_done (by kernel_rfl) ?_ _
         go_wp2_with fail
         refine ⟨⟨q+1,_,by omega,(by first | rfl | (rw [hw2]) | go_num),HI7,HW7,HEQ7,HO7⟩,?_⟩
         first | (simp [intOf];done) | (simp [intOf];omega)
       ·obtain rfl:q=Q:=by omega
        have hlq':¬ (0:Int)≤(q:Int) - 1 - (q:Int):=by omega
        have HX4:=Hd (show XR=(cq,ej) by rw [HXR2.out,HEQ.out])
        have HDWq:=Hd (show DW cq ej from ⟨HCQ.out,HD.out.nw,HD.out.nf⟩)
        go_wp2_with fail
        refine ⟨⟨j+1,cq,ej,by omega,by first | rfl | go_num,HIq,HDWq,Hd (by rw [HXJ.out,HX4.out]),by omega⟩,?_⟩
        simp [intOf]
        omega
    ·as_aux_lemma=>
     have htwo:L0=2:=by rcases HKS.out with h | h | h<;>omega
     subst htwo
     have hk25:2≤k∧k≤5:=by rcases HKS.out with h | h | h<;>omega
     obtain ⟨y,z,rfl⟩:∃ y z,ys=[y,z]:=by
      have hl:=HL0.out
      rcases ys with _ | ⟨y,_ | ⟨z,_ | ⟨u,us⟩⟩⟩
      ·simp at hl
      ·simp at hl
      ·exact ⟨y,z,rfl⟩
      ·simp at hl
     obtain ⟨gq,rfl,hgq,hes⟩:=HV0.out.nth (j:=0) (s:=y) rfl
     obtain ⟨k1,n1,sn1,b1,l1,d1,p1,hev1,hat1⟩:=hes.at5 (j:=0) rfl
     obtain ⟨k2,n2,sn2,b2,l2,d2,p2,hev2,hat2⟩:=hes.at5 (j:=1) rfl
     have HAT1:=Hd hat1
     have HAT2:=Hd hat2
     have z0:w1.cell? ⟨gq,0,none⟩=some (.int .i64 k1):=hat1.c0
     have z1:w1.cell? ⟨gq,1,none⟩=some (.int .i64 n1):=hat1.c1
     have z2:w1.cell? ⟨gq,2,none⟩=some (.string sn1):=hat1.c2
     have z3:w1.cell? ⟨gq,3,none⟩=some (.slice b1 l1 d1):=hat1.c3
     have z4:w1.cell? ⟨gq,4,none⟩=some (.int .i64 p1):=hat1.c4
     have hw2:wE y∧wE z:=by have h:=HWX.out.1;unfold wL at h;unfold wL at h;exact ⟨h.1,h.2.1⟩
     have hg2:gE y∧gE z:=by have h:=HWX.out.2;unfold gL at h;unfold gL at h;exact ⟨h.1,h.2.1⟩
     have K1:=rvalue_any (HI.out.ce.cer HD.out.cw) HI.out.e HD.out.nf HD.out.nw (by omega) hw2.1 hg2.1 hev1
     have HEV2:=Hd hev2
     have HW2:=Hd (And.intro hw2.2 hg2.2)
     have hxr:=HXR.out
     rw [exVs_one,exVs_two] at hxr
     have HV2n:=Hd (exV_n64 HD.out.cw HD.out.nw z hg2.2)
     generalize exV cj (lastE ej) y=V1 at K1 hxr
     have HXR2:=Hd hxr
     clear hxr hes hat1 hat2 hev1 hev2 hw2 hg2 HXR hone hzero
     go_wp2_with fail
     refine K1.mono ?_
     rintro en w5 ⟨rfl,o5⟩
     replace HI:=Hd (HI.out.quiet o5)
     replace HBX:=Hd (o5.heap HBX.out (by simp))
     have hat2:=HAT2.out.kept o5 (by simp)
     have hev2:=HEV2.out.quiet o5
     clear K1 o5 y0 y2 z0 z1 z2 z3 z4
     have y2:w5.cell? ⟨gb,2,none⟩=some (.slice (some ⟨gq,0,none⟩) 2 c0):=cell_at 2 HBX.out
     have z0:w5.cell? ⟨gq,5,none⟩=some (.int .i64 k2):=hat2.c0
     have z1:w5.cell? ⟨gq,6,none⟩=some (.int .i64 n2):=hat2.c1
     have z2:w5.cell? ⟨gq,7,none⟩=some (.string sn2):=hat2.c2
     have z3:w5.cell? ⟨gq,8,none⟩=some (.slice b2 l2 d2):=hat2.c3
     have z4:w5.cell? ⟨gq,9,none⟩=some (.int .i64 p2):=hat2.c4
     have K2:=rvalue_any (HI.out.ce.cer HD.out.cw) HI.out.e HD.out.nf HD.out.nw (by omega) HW2.out.1 HW2.out.2 hev2
     have hxr:=HXR2.out
     generalize exV cj (lastE ej) z=V2 at K2 hxr HV2n
     have HXR3:=Hd hxr
     clear hxr HXR2 hat2 hev2 HEV2 HAT1 HAT2
     go_wp2_with fail
     refine K2.mono ?_
     rintro en w6 ⟨rfl,o6⟩
     replace HI:=Hd (HI.out.quiet o6)
     replace HBX:=Hd (o6.heap HBX.out (by simp))
     clear K2 o6 y2 z0 z1 z2 z3 z4
     go_upto_region 12 with (fail)
     go_cut [11] from 50 to 55 (fun sz wx=>sz=.bool (decide (inC V1))∧wx=w6)
     case first=>
      by_cases h0:0≤V1
      ·by_cases h1:V1 < 60
       ·go_wp2_with fail
        go_meet
        exact ⟨congrArg Value.bool (decide_eq_true (show inC V1 by omega)).symm,rfl⟩
       ·go_wp2_with fail
        go_meet
        exact ⟨congrArg Value.bool (decide_eq_false (show ¬ inC V1 by omega)).symm,rfl⟩
      ·go_wp2_with fail
       go_meet
       exact ⟨congrArg Value.bool (decide_eq_false (show ¬ inC V1 by omega)).symm,rfl⟩
     case rest=>
      obtain ⟨rfl,hwx⟩:=hcut
      obtain rfl:=hwx.symm
      have y0:w6.cell? ⟨gb,0,none⟩=some (.int .i64 k):=cell_at 0 HBX.out
      have h1:¬ k=1:=by omega
      have h6:¬ k=6:=by omega
      have h7:¬ k=7:=by omega
      have h8:¬ k=8:=by omega
      have hxr:=HXR3.out
      rw [if_neg h1,if_neg h6,if_neg h7,if_neg h8] at hxr
      have hds:=HDS.out
      rw [hxr] at hds
      have cells:=fun i (hi:i < 60)=>HI.out.ce.cell HI.out.own (i:=i) (by rw [HD.out.cw.len];exact hi)
      by_cases h5:k=5
      ·as_aux_lemma=>
       subst h5
       rw [if_pos rfl] at hxr hds
       have HX4:=Hd hxr
       have HDW6:=Hd (show DW (swpC cj V1 V2) ej from ⟨hds.1,HD.out.nw,HD.out.nf⟩)
       clear hxr hds h1 h6 h7 h8 HXR3 hk25
       by_cases hi1:inC V1
       ·by_cases hi2:inC V2
        ·obtain ⟨i,rfl⟩:∃ i:Nat,V1=(i:Int):=⟨V1.toNat,by omega⟩
         obtain ⟨i2,rfl⟩:∃ i:Nat,V2=(i:Int):=⟨V2.toNat,by omega⟩
         have hli:i < 60:=by omega
         have hli2:i2 < 60:=by omega
         obtain ⟨ci,fi⟩:=cells i hli
         obtain ⟨cj2,fj⟩:=cells i2 hli2
         have hsw:swpC cj (i:Int) (i2:Int)=(cj.set i (cj.getD i2 0)).set i2 (cj.getD i 0):=by
          unfold swpC
          rw [if_pos ⟨hi1,hi2⟩]
          unfold getC
          rw [if_pos hi1,if_pos hi2]
          rfl
         rw [hsw] at HX4 HDW6
         rw [decide_eq_true hi1]
         generalize cj.getD i 0=va at ci HX4 HDW6
         generalize cj.getD i2 0=vb at cj2 HX4 HDW6
         have i0:(0:Int)≤(i:Int):=by omega
         have i1:(i:Int) < 60:=by omega
         have j0:(0:Int)≤(i2:Int):=by omega
         have j1:(i2:Int) < 60:=by omega
         have hri:=HI.out.set i vb
         have cj3:(w6.setCell ⟨gc,i,none⟩ (.int .i64 vb)).frozen? ⟨gc,i2,none⟩=false∧∃ u,(w6.setCell ⟨gc,i,none⟩ (.int .i64 vb)).cell? ⟨gc,i2,none⟩=some u:=by
          obtain ⟨h1,h2⟩:=hri.ce.cell hri.own (i:=i2) (by rw [List.length_set,HD.out.cw.len];exact hli2)
          exact ⟨h2,_,h1⟩
         obtain ⟨fj3,u3,cj4⟩:=cj3
         have HRI2:=Hd (hri.set i2 va)
         clear cells hsw hi1 hi2 hri
         go_wp2_with fail
         refine ⟨⟨j+1,_,ej,by omega,by first | rfl | go_num,HRI2,HDW6,Hd (by rw [HXJ.out,HX4.out]),by omega⟩,?_⟩
         simp [intOf]
         omega
        ·have hsw:swpC cj V1 V2=cj:=by unfold swpC;rw [if_neg (fun h=>hi2 h.2)]
         rw [hsw] at HX4 HDW6
         rw [decide_eq_true hi1]
         clear cells hsw hi1
         by_cases hn2:0≤V2
         ·have hn3:¬ V2 < 60:=by omega
          go_wp2_with fail
          refine ⟨⟨j+1,cj,ej,by omega,by first | rfl | go_num,HI,HDW6,Hd (by rw [HXJ.out,HX4.out]),by omega⟩,?_⟩
          simp [intOf]
          omega
         ·
          go_wp2_with fail
          refine ⟨⟨j+1,cj,ej,by omega,by first | rfl | go_num,HI,HDW6,Hd (by rw [HXJ.out,HX4.out]),by omega⟩,?_⟩
          simp [intOf]
          omega
       ·have hsw:swpC cj V1 V2=cj:=by unfold swpC;rw [if_neg (fun h=>hi1 h.1)]
        rw [hsw] at HX4 HDW6
        rw [decide_eq_false hi1]
        clear cells hsw hi1
        go_wp2_with fail
        refine ⟨⟨j+1,cj,ej,by omega,by first | rfl | go_num,HI,HDW6,Hd (by rw [HXJ.out,HX4.out]),by omega⟩,?_⟩
        simp [intOf]
        omega
      ·as_aux_lemma=>
       rw [if_neg h5] at hxr hds
       have HX4:=Hd hxr
       have HDW6:=Hd (show DW (chgC k cj V1 V2) ej from ⟨hds.1,HD.out.nw,HD.out.nf⟩)
       have hk24:k=2∨k=3∨k=4:=by omega
       clear hxr hds h1 h6 h7 h8 HXR3 hk25 h5
       by_cases hi1:inC V1
       ·obtain ⟨i,rfl⟩:∃ i:Nat,V1=(i:Int):=⟨V1.toNat,by omega⟩
        have hli:i < 60:=by omega
        obtain ⟨ci,fi⟩:=cells i hli
        have hget:getC cj (i:Int)=cj.getD i 0:=by unfold getC;rw [if_pos hi1];rfl
        have hch:chgC k cj (i:Int) V2=if k=2 then cj.set i V2 else if k=3 then cj.set i (wrap64 (cj.getD i 0+V2)) else if k=4 then cj.set i (wrap64 (cj.getD i 0 - V2)) else cj:=by
         unfold chgC
         rw [if_pos hi1,hget]
         rfl
        rw [hch] at HX4 HDW6
        rw [decide_eq_true hi1]
        have hset:=fun v=>HI.out.set i v
        generalize cj.getD i 0=va at ci HX4 HDW6
        have i0:(0:Int)≤(i:Int):=by omega
        have i1:(i:Int) < 60:=by omega
        rcases hk24 with h2 | h3 | h4
        ·as_aux_lemma=>
         subst h2
         rw [if_pos rfl] at HX4 HDW6
         have HRI2:=Hd (hset V2)
         clear cells hch hset hi1 hget
         go_wp2_with fail
         refine ⟨⟨j+1,_,ej,by omega,by first | rfl | go_num,HRI2,HDW6,Hd (by rw [HXJ.out,HX4.out]),by omega⟩,?_⟩
         simp [intOf]
         omega
        ·as_aux_lemma=>
         subst h3
         rw [if_neg (by decide),if_pos rfl] at HX4 HDW6
         have HRI2:=Hd (hset (wrap64 (va+V2)))
         clear cells hch hset hi1 hget
         go_wp2_with fail
         refine ⟨⟨j+1,_,ej,by omega,by first | rfl | go_num,HRI2,HDW6,Hd (by rw [HXJ.out,HX4.out]),by omega⟩,?_⟩
         simp [intOf]
         omega
        ·as_aux_lemma=>
         subst h4
         rw [if_neg (by decide),if_neg (by decide),if_pos rfl] at HX4 HDW6
         have HRI2:=Hd (hset (wrap64 (va - V2)))
         clear cells hch hset hi1 hget
         go_wp2_with fail
         refine ⟨⟨j+1,_,ej,by omega,by first | rfl | go_num,HRI2,HDW6,Hd (by rw [HXJ.out,HX4.out]),by omega⟩,?_⟩
         simp [intOf]
         omega
       ·have hch:chgC k cj V1 V2=cj:=by unfold chgC;rw [if_neg hi1]
        rw [hch] at HX4 HDW6
        rw [decide_eq_false hi1]
        clear cells hch hi1
        rcases hk24 with rfl | rfl | rfl
        ·
         go_wp2_with fail
         refine ⟨⟨j+1,cj,ej,by omega,by first | rfl | go_num,HI,HDW6,Hd (by rw [HXJ.out,HX4.out]),by omega⟩,?_⟩
         simp [intOf]
         omega
        ·
         go_wp2_with fail
         refine ⟨⟨j+1,cj,ej,by omega,by first | rfl | go_num,HI,HDW6,Hd (by rw [HXJ.out,HX4.out]),by omega⟩,?_⟩
         simp [intOf]
         omega
        ·
         go_wp2_with fail
         refine ⟨⟨j+1,cj,ej,by omega,by first | rfl | go_num,HI,HDW6,Hd (by rw [HXJ.out,HX4.out]),by omega⟩,?_⟩
         simp [intOf]
         omega
  ·obtain rfl:j=n:=by omega
   have hX2:X=(cj,ej):=by rw [HXj.out,HN.out,List.drop_length,dcB_nil]
   have HX2:=Hd hX2
   clear hX2
   go_wp2_with fail
   go_ret
   rw [HX2.out]
   exact ⟨_,rfl,HI.out⟩
theorem dblk9_all (N:Nat) (hN:N≤1000000):∀ M,M≤N→RBP M:=by
 induction N with
 | zero=>exact fun M hM=>dblk9_step M (by omega) (fun K hK=>by omega)
 | succ N ih=>exact fun M hM=>dblk9_step M (by omega) (fun K hK=>ih (by omega) K (by omega))
end Go.Proofs.Ytiaeagpepfmfgaa
