/- Layer 11: what text any two codes have, and whether they are the same: as the document's own Text and Same have it. -/
import Derived.Test.YtheanmadognhbaaGreatDoorHAr
import Derived.Test.YtheanmadognhbaaGreatDoorH26r
import Derived.Test.YtheanmadognhbaaGreatDoorUcr
import Derived.Test.YtheanmadognhbaaGreatDoorHCLr
namespace Go.Proofs.YtheanmadognhbaaGreatDoor
open Go.ChangeShapes Go.WideShapes Go.ChangeAt Go.RowKit Go.Maps
open Go.ChangeMaps (open_string shut_string)
set_option linter.unusedSimpArgs false
set_option linter.unusedVariables false
set_option maxRecDepth 100000 in
set_option maxHeartbeats 4000000 in
theorem codeTexts_walk (x1 y1:Int) (v1 u1:Value) (x2 y2:Int) (v2 u2:Value) (l1:List Ins) (m1:List Lp) (l2:List Ins) (m2:List Lp) (w:World)
  (hv1:RV rI w v1 l1) (hn1:∀ x∈l1,n64 x.1∧n64 x.2) (hl1:l1.length≤maxLen) (hu1:RV rL w u1 m1) (hm1:m1.length≤maxLen)
  (hv2:RV rI w v2 l2) (hn2:∀ x∈l2,n64 x.1∧n64 x.2) (hl2:l2.length≤maxLen) (hu2:RV rL w u2 m2) (hm2:m2.length≤maxLen) (ht:Tab w) :
  Calls Tryz.prog 4 #[CdA x1 y1 v1 u1,CdA x2 y2 v2 u2] w fun e w'=>e=.returned (.bool true)∧Only [] w w':=by
 unfold maxLen at hl1 hm1 hl2 hm2
 obtain ⟨a1,c1,rfl,-⟩:=id hv1
 obtain ⟨a2,c2,rfl,-⟩:=id hv2
 obtain ⟨a3,c3,rfl,-⟩:=id hu1
 obtain ⟨a4,c4,rfl,-⟩:=id hu2
 obtain ⟨q,hq⟩:∃ q:Bool,q=true↔x1=x2∧y1=y2∧l1=l2∧m1=m2:=by
  by_cases h:x1=x2∧y1=y2∧l1=l2∧m1=m2
  ·exact ⟨true,by simp [h]⟩
  ·exact ⟨false,by simp [h]⟩
 have HQ:=Hd hq
 obtain ⟨L1,hL1⟩:∃ L,L=l1.length:=⟨_,rfl⟩
 obtain ⟨L2,hL2⟩:∃ L,L=l2.length:=⟨_,rfl⟩
 obtain ⟨L3,hL3⟩:∃ L,L=m1.length:=⟨_,rfl⟩
 obtain ⟨L4,hL4⟩:∃ L,L=m2.length:=⟨_,rfl⟩
 rw [← hL1] at hv1 hl1⊢
 rw [← hL2] at hv2 hl2⊢
 rw [← hL3] at hu1 hm1⊢
 rw [← hL4] at hu2 hm2⊢
 have HL:=Hd (And.intro hL1 (And.intro hL2 (And.intro hL3 hL4)))
 have HN:=Hd (And.intro hn1 hn2)
 have HM:=Hd (And.intro hm1 hm2)
 clear hq hL1 hL2 hL3 hL4 hn1 hn2 hm1 hm2
 have HV1:=Hd hv1
 have HV2:=Hd hv2
 have HU1:=Hd hu1
 have HU2:=Hd hu2
 have HT:=Hd ht
 unfold CdA
 clear hv1 hv2 hu1 hu2 ht
 go_enter Tryz.func4,Tryz.ntmps4
 go_upto_region 1 with (fail)
 have oA:=(Only.refl [] w).alloc (.cells #[.int .i64 x1,.int .i64 y1,.slice a1 L1 c1,.slice a3 L3 c3] 33)
 have hA:=heap_new w (.cells #[.int .i64 x1,.int .i64 y1,.slice a1 L1 c1,.slice a3 L3 c3] 33)
 have hsA:(w.alloc (.cells #[.int .i64 x1,.int .i64 y1,.slice a1 L1 c1,.slice a3 L3 c3] 33)).heap.size=w.heap.size+1:=Array.size_push _
 obtain ⟨ga,hga⟩:∃ g,g=w.heap.size:=⟨_,rfl⟩
 rw [← hga] at hA hsA⊢
 generalize w.alloc (.cells #[.int .i64 x1,.int .i64 y1,.slice a1 L1 c1,.slice a3 L3 c3] 33)=wa at oA hA hsA⊢
 have oB:=(Only.refl [] wa).alloc (.cells #[.int .i64 x2,.int .i64 y2,.slice a2 L2 c2,.slice a4 L4 c4] 33)
 have hB:=heap_new wa (.cells #[.int .i64 x2,.int .i64 y2,.slice a2 L2 c2,.slice a4 L4 c4] 33)
 rw [hsA] at hB
 obtain ⟨gb,hgb⟩:∃ g,g=ga+1:=⟨_,rfl⟩
 rw [← hgb] at hB⊢
 replace hA:=oB.heap hA (by simp)
 generalize wa.alloc (.cells #[.int .i64 x2,.int .i64 y2,.slice a2 L2 c2,.slice a4 L4 c4] 33)=wb at oB hA hB⊢
 have o2:=oA.trans oB (by simp)
 have KA:=alive11_any names_any wb (HT.out.quiet o2)
 have HO:=Hd o2
 have HA:=Hd hA
 have HB:=Hd hB
 clear oA oB o2 hA hB hsA hga hgb
 go_wp2_with fail
 refine KA.mono ?_
 rintro e w1 ⟨rfl,o1⟩
 replace HO:=Hd (HO.out.trans o1 (by simp))
 replace HA:=Hd (o1.heap HA.out (by simp))
 replace HB:=Hd (o1.heap HB.out (by simp))
 clear KA o1
 have z2:w1.cell? ⟨ga,2,none⟩=some (.slice a1 L1 c1):=cell_at 2 HA.out
 have y2:w1.cell? ⟨gb,2,none⟩=some (.slice a2 L2 c2):=cell_at 2 HB.out
 by_cases h1:(300:Int) < (L1:Int)
 ·go_wp2_with fail
  go_ret
  exact ⟨rfl,HO.out⟩
 ·by_cases h2:(300:Int) < (L2:Int)
  ·go_wp2_with fail
   go_ret
   exact ⟨rfl,HO.out⟩
  ·go_upto_region 5 with (fail)
   have oD:Only [] w1 w1.drew:=(Only.refl [] w1).drew
   have hb1:l1.length≤300:=by have:=HL.out;omega
   have hb2:l2.length≤300:=by have:=HL.out;omega
   have HBD:=Hd (And.intro hb1 hb2)
   clear z2 y2 h1 h2 hb1 hb2
   replace HO:=Hd (HO.out.trans oD (by simp))
   replace HA:=Hd (oD.heap HA.out (by simp))
   replace HB:=Hd (oD.heap HB.out (by simp))
   refine wp_region_held_drew (S:=fun w'=>w'.cell? ⟨ga,0,none⟩=some (.int .i64 x1)∧w'.cell? ⟨ga,1,none⟩=some (.int .i64 y1)∧w'.cell? ⟨ga,2,none⟩=some (.slice a1 L1 c1)∧w'.cell? ⟨ga,3,none⟩=some (.slice a3 L3 c3)∧w'.cell? ⟨gb,0,none⟩=some (.int .i64 x2)∧w'.cell? ⟨gb,1,none⟩=some (.int .i64 y2)∧w'.cell? ⟨gb,2,none⟩=some (.slice a2 L2 c2)∧w'.cell? ⟨gb,3,none⟩=some (.slice a4 L4 c4)) (by kernel_rfl) ⟨cell_at 0 HA.out,cell_at 1 HA.out,cell_at 2 HA.out,cell_at 3 HA.out,cell_at 0 HB.out,cell_at 1 HB.out,cell_at 2 HB.out,cell_at 3 HB.out⟩ (fun hH=>?_)
   clear oD
   generalize w1.drew=wd at HO HA HB hH⊢
   refine tk 0 hH ?_
   refine tk 2 hH ?_
   refine rd 1 (fun K hK=>?_)
   go_simp
   refine (text_any x1 y1 (HV1.out.quiet HO.out) HN.out.1 (by have:=HBD.out.1;omega) (HT.out.quiet HO.out)).mono ?_
   rintro e w3 ⟨rfl,o3⟩
   replace HO:=Hd (HO.out.trans o3 (by simp))
   replace HA:=Hd (o3.heap HA.out (by simp))
   replace HB:=Hd (o3.heap HB.out (by simp))
   refine hK.out _ _ ⟨cell_at 0 HA.out,cell_at 1 HA.out,cell_at 2 HA.out,cell_at 3 HA.out,cell_at 0 HB.out,cell_at 1 HB.out,cell_at 2 HB.out,cell_at 3 HB.out⟩ (fun hH=>?_)
   clear hK K o3
   refine rd 3 (fun K hK=>?_)
   go_simp
   refine (rtext_any x1 y1 (HV1.out.quiet HO.out) HN.out.1 (by have:=HBD.out.1;omega)).mono ?_
   rintro e w4 ⟨rfl,o4⟩
   replace HO:=Hd (HO.out.trans o4 (by simp))
   replace HA:=Hd (o4.heap HA.out (by simp))
   replace HB:=Hd (o4.heap HB.out (by simp))
   refine hK.out _ _ ⟨cell_at 0 HA.out,cell_at 1 HA.out,cell_at 2 HA.out,cell_at 3 HA.out,cell_at 0 HB.out,cell_at 1 HB.out,cell_at 2 HB.out,cell_at 3 HB.out⟩ (fun hH=>?_)
   clear hK K o4
   generalize strOf (textS 0 l1)=SS
   refine tk 4 hH ?_
   refine tk 5 hH ?_
   refine tk 6 hH ?_
   refine tk 7 hH ?_
   refine tk 9 hH ?_
   refine tk 10 hH ?_
   refine rd 8 (fun K hK=>?_)
   go_simp
   refine (same_any (HV1.out.quiet HO.out) (HU1.out.quiet HO.out) (HV2.out.quiet HO.out) (HU2.out.quiet HO.out) (by have:=HBD.out.1;omega) (by have:=HM.out.1;have:=HL.out;omega) (by have:=HBD.out.2;omega) (by have:=HM.out.2;have:=HL.out;omega) HQ.out).mono ?_
   rintro e w5 ⟨rfl,o5⟩
   replace HO:=Hd (HO.out.trans o5 (by simp))
   replace HA:=Hd (o5.heap HA.out (by simp))
   replace HB:=Hd (o5.heap HB.out (by simp))
   refine hK.out _ _ ⟨cell_at 0 HA.out,cell_at 1 HA.out,cell_at 2 HA.out,cell_at 3 HA.out,cell_at 0 HB.out,cell_at 1 HB.out,cell_at 2 HB.out,cell_at 3 HB.out⟩ (fun hH=>?_)
   clear hK K o5
   refine rd 11 (fun K hK=>?_)
   go_simp
   refine (rsame_any (HV1.out.quiet HO.out) (HU1.out.quiet HO.out) (HV2.out.quiet HO.out) (HU2.out.quiet HO.out) (by have:=HBD.out.1;omega) (by have:=HM.out.1;have:=HL.out;omega) (by have:=HBD.out.2;omega) (by have:=HM.out.2;have:=HL.out;omega) HQ.out).mono ?_
   rintro e w6 ⟨rfl,o6⟩
   replace HO:=Hd (HO.out.trans o6 (by simp))
   replace HA:=Hd (o6.heap HA.out (by simp))
   replace HB:=Hd (o6.heap HB.out (by simp))
   refine hK.out _ _ ⟨cell_at 0 HA.out,cell_at 1 HA.out,cell_at 2 HA.out,cell_at 3 HA.out,cell_at 0 HB.out,cell_at 1 HB.out,cell_at 2 HB.out,cell_at 3 HB.out⟩ (fun hH=>?_)
   clear hK K o6
   refine tk 12 hH ?_
   refine tk 13 hH ?_
   refine tk 14 hH ?_
   refine tk 15 hH ?_
   refine tk 16 hH ?_
   refine rd 17 (fun K hK=>?_)
   go_simp
   refine (same_any (q:=true) (HV1.out.quiet HO.out) (HU1.out.quiet HO.out) (HV1.out.quiet HO.out) (HU1.out.quiet HO.out) (by have:=HBD.out.1;omega) (by have:=HM.out.1;have:=HL.out;omega) (by have:=HBD.out.1;omega) (by have:=HM.out.1;have:=HL.out;omega) (by simp)).mono ?_
   rintro e w7 ⟨rfl,o7⟩
   replace HO:=Hd (HO.out.trans o7 (by simp))
   replace HA:=Hd (o7.heap HA.out (by simp))
   replace HB:=Hd (o7.heap HB.out (by simp))
   refine hK.out _ _ ⟨cell_at 0 HA.out,cell_at 1 HA.out,cell_at 2 HA.out,cell_at 3 HA.out,cell_at 0 HB.out,cell_at 1 HB.out,cell_at 2 HB.out,cell_at 3 HB.out⟩ (fun hH=>?_)
   clear hK K o7
   refine tk 18 hH ?_
   refine tk 19 hH ?_
   refine wpAnyH_done (by kernel_rfl) ?_ _
   go_wp2_with fail
   go_ret
   exact ⟨rfl,HO.out⟩
set_option maxRecDepth 100000 in
theorem codeTexts_lifted (os:Os) (started:os.Started) (H:Type) (enc:TypeId×Value→H) :
  ReturnsInHanded {} Tryz.checked os 4 .any (fun w args=>(Rows.codeTextsSpec.pre enc Tryz.prog Tryz.f4 Rows.codeTextsRow.domain false w args∧laidMet Tryz.prog laid5 w)∧sizedMet enc Tryz.prog Tryz.f4 (OpenSpec.ofChange Rows.codeTextsSpec) false w args)
   (Rows.codeTextsSpec.post enc Tryz.prog Tryz.f4 false true false false):=by
 refine returnsInHanded_of_change_and (C:=Tryz.checked) (X:=(fun w _=>laidMet Tryz.prog laid5 w)) (fun _ _ _ hh h=>h.of_heap hh) law_own started (by kernel_rfl) Tryz.func4
  (ChangeSpec.witness_at (enc:=enc) (C:=Tryz.checked) (os:=os) (X:=(fun w _=>laidMet Tryz.prog laid5 w)) false (laidWorld os) #[.agg #[.int .i64 0,.int .i64 0,.slice none 0 0,.slice none 0 0],.agg #[.int .i64 0,.int .i64 0,.slice none 0 0,.slice none 0 0]] 8 rfl (by kernel_rfl) (by kernel_rfl) (by kernel_rfl) (by kernel_rfl) (by kernel_rfl) (laidWorld_met os _)) ?_
 intro W base args ds gs before hval0 hW hcnd hsz0 hL _
 have hE:=errs_of_laid hL
 have hval:∀ (j:Nat) t v,Tryz.f4.params[j]?=some t→args[j]?=some v→Value.okWide Tryz.prog W .any base t v:=hval0
 have hW':=hW
 obtain ⟨p,q,hA0,hV,rfl,hfz,hnd⟩:=hW'
 have hA:DataW.TrodAll enc Tryz.prog W 0 (fun _=>true) true Tryz.f4.params.toList args.toList ds p:=hA0
 rw [Tryz.params4] at hA hval
 obtain ⟨v0,vs0,d0,ds0,p0,q0,hargs,rfl,rfl,h0,r0⟩:=trodAll_cons hA
 obtain ⟨v1,vs1,d1,ds1,p1,q1,rfl,rfl,rfl,h1,r1⟩:=trodAll_cons r0
 obtain ⟨rfl,rfl,rfl⟩:=trodAll_nil r1
 obtain rfl:args=#[v0,v1]:=by cases args;simp_all
 obtain ⟨rfl,rfl⟩:=trodVars_none hV
 have h0':=h0
 obtain ⟨x0,y0,b0,e0,l0,m0,rfl,hb0,hn0,hl0,he0,hm0⟩:=open_code (hval 0 33 v0 rfl rfl) h0
 have hlt0:∀ x∈p0,x.block < W.heap.size:=fun x hx=>hW.lt x (by simp [hx])
 have h1':=h1
 obtain ⟨x1,y1,b1,e1,l1,m1,rfl,hb1,hn1,hl1,he1,hm1⟩:=open_code (hval 1 33 v1 rfl rfl) h1
 have hlt1:∀ x∈p1,x.block < W.heap.size:=fun x hx=>hW.lt x (by simp [hx])
 clear hA0 hval0
 refine (codeTexts_walk x0 y0 b0 e0 x1 y1 b1 e1 l0 m0 l1 m1 W hb0 hn0 hl0 he0 hm0 hb1 hn1 hl1 he1 hm1 hE).mono fun e W' ⟨he,hg⟩=>?_
 subst he
 exact ⟨_,rfl,post_quiet (pa:=(p0++(p1++[]))) (pv:=[]) hW hg (fun _ _ _=>(trodAll_cons_mk (shut_bool Tryz.underlying4 _) trodAll_mk0)) (fun sp hsp=>(trodAll_cons_mk (arg_stays (by kernel_rfl) (of_decide_eq_true (by kernel_rfl)) h0' hg hlt0 (fun x hx=>hsp x (by simp [hx]))) (trodAll_cons_mk (arg_stays (by kernel_rfl) (of_decide_eq_true (by kernel_rfl)) h1' hg hlt1 (fun x hx=>hsp x (by simp [hx]))) trodAll_mk0))) (fun _ _=>rfl) (by simp) (ok_one (by kernel_rfl) rfl (okWide_bool_mk Tryz.underlying4 _))⟩
theorem codeTexts_over:Rows.codeTextsRow.holds Tryz.pinned (OpenSpec.ofChange Rows.codeTextsSpec):=
 OpenClaim.holds_of_wide 4 Tryz.f4 rfl rfl rfl rfl rfl rfl rfl ⟨rfl,rfl,rfl,rfl,rfl⟩ rfl rfl rfl rfl rfl (by kernel_rfl) Tryz.func4 (by kernel_rfl)
  (of_decide_eq_true (by kernel_rfl)) (by unfold Func.isWrapper;first | (rw [if_pos (by decide +kernel)];kernel_rfl) | (rw [if_neg (by decide +kernel)];exact ⟨rfl,rfl⟩))
  (fun os started H enc _=>codeTexts_lifted os started H enc)
theorem codeTexts_holds:Rows.CodeTextsCardSaid:=
 Claim7.holds_tied_plain_at .later [] [.data,.data,.data] true (true,"15efa5c0b783041a866d390ad58605ebe9e7bd5fb484820fb9a3bda929985d92") true
  codeTexts_over (fun _ h=>by cases h) (by kernel_rfl) (fun _ h=>by cases h) codeTexts_row_tie rfl ⟨rfl,rfl⟩ (by kernel_rfl) rfl
  (fun f fn hf hfn=>by
   obtain rfl:f=4:=Option.some.inj ((show Tryz.prog.funcNamed Rows.codeTextsRow.func=some 4 by kernel_rfl).symm.trans hf) |>.symm
   obtain rfl:fn=Tryz.f4:=(Option.some.inj (Tryz.func4.symm.trans hfn)).symm
   exact ⟨by kernel_rfl,fun j t ht=>by
    rw [Tryz.params4] at ht
    rcases j with _ | _ | j
    ·obtain rfl:t=33:=by simpa using ht.symm
     exact (show Tryz.prog.wantsStandIn 33=false by kernel_rfl)
    ·obtain rfl:t=33:=by simpa using ht.symm
     exact (show Tryz.prog.wantsStandIn 33=false by kernel_rfl)
    ·simp at ht⟩)
  (by kernel_rfl)
#print axioms codeTexts_holds
end Go.Proofs.YtheanmadognhbaaGreatDoor
