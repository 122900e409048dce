import Derived.Test.YtcebchffcmpfeaaGreatKct
import Derived.Test.YtcebchffcmpfeaaGreatG19t
namespace Go.Proofs.YtcebchffcmpfeaaGreat
set_option linter.unusedVariables false
set_option linter.unusedSimpArgs false
set_option maxRecDepth 100000
set_option maxHeartbeats 16000000
open Go.RowKit Go.Maps
theorem stS_le {N:Nat} (hN:N≤1000000) {e:St} (hs:bn e≤N) (hf:sz e):stS e≤100000000:=by
 obtain ⟨k,nm,xs,n,bd,els,p⟩:=e;have h1:=kQ bd 0 (by omega);have h2:=kQ els 0 (by omega);have h3:aq xs≤N:=by unfold bn at hs;omega
 unfold sz at hf;unfold stS;split
 ·omega
 ·split
  ·rename_i h78;have h4:=(hf.1 h78)
   have h5:n.toNat*(1+stB 0 bd)≤64*2050:=Nat.mul_le_mul (by omega) (by omega);omega
  ·omega
theorem u7 (N:Nat) (hN6:N≤1000000) (IS:CStbP N):CStpP (N+1):=by
 intro e hN w cs B hf hev;obtain ⟨k,nm,ys,nn,bd,els,p⟩:=e;have hsy:aq ys≤N:=by unfold bn at hN;omega
 have hsb:ah bd≤N:=by unfold bn at hN;omega
 have hse:ah els≤N:=by unfold bn at hN;omega
 unfold sz at hf;obtain ⟨hfn,hfb,hfe⟩:=hf;obtain ⟨R,hR⟩:∃ R,R=stS (.mk k nm ys nn bd els p):=⟨_,rfl⟩
 rw [← hR];unfold stS at hR;unfold SV at hev;obtain ⟨va,a1,c1,a2,c2,rfl,hxs,hb,hels⟩:=hev;have hvb:SsV w B (.slice a1 bd.length c1) bd:=⟨a1,c1,rfl,hb⟩
 have hve:SsV w B (.slice a2 els.length c2) els:=⟨a2,c2,rfl,hels⟩
 obtain ⟨a0,c0,rfl,hx0⟩:=hxs;have hvy:EsV w B (.slice a0 ys.length c0) ys:=⟨a0,c0,rfl,hx0⟩
 obtain ⟨sn,hsn⟩:∃ sn,sn=aj nm:=⟨_,rfl⟩
 obtain ⟨L0,hL0⟩:∃ L,L=ys.length:=⟨_,rfl⟩
 obtain ⟨L1,hL1⟩:∃ L,L=bd.length:=⟨_,rfl⟩
 obtain ⟨L2,hL2⟩:∃ L,L=els.length:=⟨_,rfl⟩
 rw [← hL0] at hvy;rw [← hL1] at hvb;rw [← hL2] at hve;rw [← hsn,← hL0,← hL1,← hL2];have o1:Only [] w (w.alloc (.cells #[.int .i64 k,.string sn,.slice a0 L0 c0,.int .i64 nn,.slice a1 L1 c1,.slice a2 L2 c2,.int .i64 p] 113)):=(Only.refl _ _).alloc _;have HY:=Hd (ag w (.cells #[.int .i64 k,.string sn,.slice a0 L0 c0,.int .i64 nn,.slice a1 L1 c1,.slice a2 L2 c2,.int .i64 p] 113));obtain ⟨w1,hw1⟩:∃ w1,w1=w.alloc (.cells #[.int .i64 k,.string sn,.slice a0 L0 c0,.int .i64 nn,.slice a1 L1 c1,.slice a2 L2 c2,.int .i64 p] 113):=⟨_,rfl⟩
 rw [← hw1] at o1 HY;have K1:=ju N hN6 ys hsy w1 _ B (hvy.quiet o1);have HVB:=Hd (hvb.quiet o1);have HVE:=Hd (hve.quiet o1);have HO1:=Hd o1;have HW:=Hd hw1;obtain ⟨T,hT⟩:∃ T,T=aq ys:=⟨_,rfl⟩
 obtain ⟨X1,hX1⟩:∃ X,X=stB 0 bd:=⟨_,rfl⟩
 obtain ⟨X2,hX2⟩:∃ X,X=stB 0 els:=⟨_,rfl⟩
 have hb1:X1≤2049:=by rw [hX1];exact kQ bd 0 (by omega)
 have hb2:X2≤2049:=by rw [hX2];exact kQ els 0 (by omega)
 rw [← hT] at K1 hsy;rw [← hT,← hX1,← hX2] at hR;have hTb:T≤1000000:=by omega
 have HR:=Hd hR;have HX1:=Hd hX1;have HX2:=Hd hX2;have HFN:=Hd hfn;have y2:w1.cell? ⟨w.heap.size,2,none⟩=some (.slice a0 L0 c0):=ab 2 HY.out;clear hb hels hx0 hvb hve hvy hsn hL0 hL1 hL2 o1 hw1 hR hT hX1 hX2 hfn hN
 go_enter Tryz.func128,Tryz.ntmps128
 go_upto_region 1 with (fail)
 rw [← HW.out];go_wp2_with fail
 refine K1.mono ?_;rintro en w2 ⟨rfl,ho2⟩;have HY2:=Hd (ho2.heap HY.out (by simp));have HVB2:=Hd (HVB.out.quiet ho2);have HVE2:=Hd (HVE.out.quiet ho2);have HO2:=Hd (HO1.out.trans ho2 (by simp));have y0:w2.cell? ⟨w.heap.size,0,none⟩=some (.int .i64 k):=ab 0 HY2.out;clear ho2 K1 y2
 by_cases h6:k=6
 ·subst h6;have hRR:R=1+T+max X1 X2:=by rw [HR.out,if_pos rfl]
  have HRR:=Hd hRR;clear hRR;go_upto_region 4 with (fail)
  have oD:Only [] w2 w2.drew:=(Only.refl [] w2).drew;have hYd:=oD.heap HY2.out (by simp);refine wp_region_held_drew (S:=fun w'=>w'.cell? ⟨w.heap.size,4,none⟩=some (.slice a1 L1 c1)∧w'.cell? ⟨w.heap.size,5,none⟩=some (.slice a2 L2 c2)) (by kernel_rfl) ⟨ab 4 hYd,ab 5 hYd⟩ (fun hH=>?_);have HVBd:=Hd (HVB2.out.quiet oD);have HVEd:=Hd (HVE2.out.quiet oD);have HYd:=Hd hYd;have HOd:=Hd (HO2.out.trans oD (by simp));clear oD hYd y0;generalize w2.drew=wd at HVBd HVEd HYd HOd hH⊢;refine tk 0 hH ?_;refine tk 1 hH ?_;refine tk 2 hH ?_;refine tk 4 hH ?_;refine tk 5 hH ?_;refine rd 3 (fun K hK=>?_);go_simp;refine (IS bd hsb wd _ B hfb HVBd.out).mono ?_;rintro en w3 ⟨rfl,ho3⟩;have HVE3:=Hd (HVEd.out.quiet ho3);have HO3:=Hd (HOd.out.trans ho3 (by simp));have hY3:=ho3.heap HYd.out (by simp);rw [← HX1.out];refine hK.out _ _ ⟨ab 4 hY3,ab 5 hY3⟩ (fun hH=>?_);have HY3:=Hd hY3;clear hK K hY3 ho3;refine rd 6 (fun K hK=>?_);go_simp;refine (IS els hse w3 _ B hfe HVE3.out).mono ?_;rintro en w4 ⟨rfl,ho4⟩;have HO4:=Hd (HO3.out.trans ho4 (by simp));have hY4:=ho4.heap HY3.out (by simp);rw [← HX2.out];refine hK.out _ _ ⟨ab 4 hY4,ab 5 hY4⟩ (fun hH=>?_);clear hK K hY4 ho4
  by_cases hm:X2≤X1
  ·have hmm:¬ (X1:Int) < (X2:Int):=by omega
   rw [Nat.max_eq_left hm] at HRR;have hwx:IntKind.i64.wrap (1+(T:Int)+(X1:Int))=1+(T:Int)+(X1:Int):=by rw [IntKind.wrap_i64];omega
   refine tk 7 hH ?_;refine tk 8 hH ?_;refine tk 9 hH ?_;refine wpAnyH_done (by kernel_rfl) ?_ _;clear hH;(go_wp2_with fail);go_ret;rw [HRR.out];exact ⟨by simp<;>(rw [IntKind.wrap_i64]<;>omega),HO4.out⟩
  ·have hmm:(X1:Int) < (X2:Int):=by omega
   rw [Nat.max_eq_right (by omega)] at HRR;have hwx:IntKind.i64.wrap (1+(T:Int)+(X2:Int))=1+(T:Int)+(X2:Int):=by rw [IntKind.wrap_i64];omega
   refine tk 7 hH ?_;refine tk 8 hH ?_;refine tk 9 hH ?_;refine wpAnyH_done (by kernel_rfl) ?_ _;clear hH;(go_wp2_with fail);go_ret;rw [HRR.out];exact ⟨by simp<;>(rw [IntKind.wrap_i64]<;>omega),HO4.out⟩
 ·by_cases h78:k=7∨k=8
  ·have hRR:R=1+T+nn.toNat*(1+X1):=by rw [HR.out,if_neg h6,if_pos h78]
   obtain ⟨hn0,hn64⟩:=HFN.out h78;obtain ⟨m,rfl⟩:∃ m:Nat,nn=(m:Int):=⟨nn.toNat,by omega⟩
   rw [show ((m:Int)).toNat=m by omega] at hRR;obtain ⟨M,hM⟩:∃ M,M=m*(1+X1):=⟨_,rfl⟩
   have hMb:M≤64*2050:=by rw [hM];exact Nat.mul_le_mul (by omega) (by omega)
   have hMi:(m:Int)*(1+(X1:Int))=(M:Int):=by rw [hM];simp
   rw [← hM] at hRR;have HRR:=Hd hRR;have HMI:=Hd hMi;clear hRR hM hMi h6 HFN hn0 hn64;rcases h78 with rfl | rfl
   ·skip
    (go_upto_region 7 with (fail));have oD:Only [] w2 w2.drew:=(Only.refl [] w2).drew;have hYd:=oD.heap HY2.out (by simp);refine wp_region_held_drew (S:=fun w'=>w'.cell? ⟨w.heap.size,3,none⟩=some (.int .i64 (m:Int))∧w'.cell? ⟨w.heap.size,4,none⟩=some (.slice a1 L1 c1)) (by kernel_rfl) ⟨ab 3 hYd,ab 4 hYd⟩ (fun hH=>?_);have HVBd:=Hd (HVB2.out.quiet oD);have HOd:=Hd (HO2.out.trans oD (by simp));have HYd:=Hd hYd;clear oD hYd y0;generalize w2.drew=wd at HVBd HYd HOd hH⊢;refine tk 0 hH ?_;refine tk 1 hH ?_;refine tk 2 hH ?_;refine tk 3 hH ?_;refine tk 4 hH ?_;refine rd 5 (fun K hK=>?_);go_simp;refine (IS bd hsb wd _ B hfb HVBd.out).mono ?_;rintro en w3 ⟨rfl,ho3⟩;have HO3:=Hd (HOd.out.trans ho3 (by simp));have hY3:=ho3.heap HYd.out (by simp);rw [← HX1.out];refine hK.out _ _ ⟨ab 3 hY3,ab 4 hY3⟩ (fun hH=>?_);clear hK K hY3 ho3;have hMI:=HMI.out;have hw1:IntKind.i64.wrap (1+(X1:Int))=1+(X1:Int):=by rw [IntKind.wrap_i64];omega
    have hw2:IntKind.i64.wrap ((m:Int)*(1+(X1:Int)))=(M:Int):=by rw [hMI,IntKind.wrap_i64];omega
    have hw3:IntKind.i64.wrap (1+(T:Int)+(M:Int))=1+(T:Int)+(M:Int):=by rw [IntKind.wrap_i64];omega
    clear hMI;refine tk 6 hH ?_;refine tk 7 hH ?_;refine tk 8 hH ?_;refine tk 9 hH ?_;refine wpAnyH_done (by kernel_rfl) ?_ _;clear hH;(go_wp2_with fail);go_ret;rw [HRR.out];exact ⟨by simp,HO3.out⟩
   ·skip
    (go_upto_region 7 with (fail));have oD:Only [] w2 w2.drew:=(Only.refl [] w2).drew;have hYd:=oD.heap HY2.out (by simp);refine wp_region_held_drew (S:=fun w'=>w'.cell? ⟨w.heap.size,3,none⟩=some (.int .i64 (m:Int))∧w'.cell? ⟨w.heap.size,4,none⟩=some (.slice a1 L1 c1)) (by kernel_rfl) ⟨ab 3 hYd,ab 4 hYd⟩ (fun hH=>?_);have HVBd:=Hd (HVB2.out.quiet oD);have HOd:=Hd (HO2.out.trans oD (by simp));have HYd:=Hd hYd;clear oD hYd y0;generalize w2.drew=wd at HVBd HYd HOd hH⊢;refine tk 0 hH ?_;refine tk 1 hH ?_;refine tk 2 hH ?_;refine tk 3 hH ?_;refine tk 4 hH ?_;refine rd 5 (fun K hK=>?_);go_simp;refine (IS bd hsb wd _ B hfb HVBd.out).mono ?_;rintro en w3 ⟨rfl,ho3⟩;have HO3:=Hd (HOd.out.trans ho3 (by simp));have hY3:=ho3.heap HYd.out (by simp);rw [← HX1.out];refine hK.out _ _ ⟨ab 3 hY3,ab 4 hY3⟩ (fun hH=>?_);clear hK K hY3 ho3;have hMI:=HMI.out;have hw1:IntKind.i64.wrap (1+(X1:Int))=1+(X1:Int):=by rw [IntKind.wrap_i64];omega
    have hw2:IntKind.i64.wrap ((m:Int)*(1+(X1:Int)))=(M:Int):=by rw [hMI,IntKind.wrap_i64];omega
    have hw3:IntKind.i64.wrap (1+(T:Int)+(M:Int))=1+(T:Int)+(M:Int):=by rw [IntKind.wrap_i64];omega
    clear hMI;refine tk 6 hH ?_;refine tk 7 hH ?_;refine tk 8 hH ?_;refine tk 9 hH ?_;refine wpAnyH_done (by kernel_rfl) ?_ _;clear hH;(go_wp2_with fail);go_ret;rw [HRR.out];exact ⟨by simp,HO3.out⟩
  ·have hRR:R=1+T:=by rw [HR.out,if_neg h6,if_neg h78];rfl
   have HRR:=Hd hRR;have e6:(k == 6)=false:=by simpa using h6
   have e7:(k == 7)=false:=by simp only [beq_eq_false_iff_ne];exact fun e=>h78 (.inl e)
   have e8:(k == 8)=false:=by simp only [beq_eq_false_iff_ne];exact fun e=>h78 (.inr e)
   clear hRR;(go_wp2_with fail);go_ret;rw [HRR.out];exact ⟨by simp,HO2.out⟩
theorem cstb_all (N:Nat) (hN:N≤1000000):CStpP N∧CStbP N:=by
 induction N with
 | zero=>
  have h0:CStpP 0:=fun e he=>by cases e;unfold bn at he;omega
  exact ⟨h0,mW 0 hN (fun e hs hf=>stS_le hN hs hf) h0⟩
 | succ N ih=>
  obtain ⟨h1,h2⟩:=ih (by omega);have h3:=u7 N (by omega) h2;exact ⟨h3,mW (N+1) hN (fun e hs hf=>stS_le hN hs hf) h3⟩
def stD (d:Df):Nat:=min (aq d.needs+stB 0 d.body+aq d.give) 2049
theorem iQ {w:World} {B:Nat→Prop} {d:Df} {cs:List Value} (h:DV w B d cs) (h1:aq d.needs≤1000000) (h2:ah d.body≤1000000) (h3:aq d.give≤1000000) (hf:kR d.body) :
  Calls Tryz.prog 97 #[.agg cs.toArray] w fun en w'=>en=.returned (.int .i64 (stD d:Nat))∧Only [] w w':=by
 obtain ⟨v1,v2,v3,v4,rfl,⟨a1,c1,rfl,-⟩,hv2,hv3,hv4⟩:=h;have HV2:=Hd hv2;have HV3:=Hd hv3;have HV4:=Hd hv4;obtain ⟨a2,c2,rfl,-⟩:=hv2;obtain ⟨a3,c3,rfl,-⟩:=hv3;obtain ⟨a4,c4,rfl,-⟩:=hv4;obtain ⟨nm,ps,nd,bd,gv⟩:=d;dsimp only at *;obtain ⟨sn,hsn⟩:∃ sn,sn=aj nm:=⟨_,rfl⟩
 obtain ⟨L1,hL1⟩:∃ L,L=ps.length:=⟨_,rfl⟩
 obtain ⟨L2,hL2⟩:∃ L,L=nd.length:=⟨_,rfl⟩
 obtain ⟨L3,hL3⟩:∃ L,L=bd.length:=⟨_,rfl⟩
 obtain ⟨L4,hL4⟩:∃ L,L=gv.length:=⟨_,rfl⟩
 obtain ⟨R,hR⟩:∃ R,R=stD ⟨nm,ps,nd,bd,gv⟩:=⟨_,rfl⟩
 unfold stD at hR;dsimp only at hR;obtain ⟨T2,hT2⟩:∃ T,T=aq nd:=⟨_,rfl⟩
 obtain ⟨T3,hT3⟩:∃ T,T=stB 0 bd:=⟨_,rfl⟩
 obtain ⟨T4,hT4⟩:∃ T,T=aq gv:=⟨_,rfl⟩
 have hb3:T3≤2049:=by rw [hT3];exact kQ bd 0 (by omega)
 have hb2:T2≤1000000:=by omega
 have hb4:T4≤1000000:=by omega
 rw [← hT2,← hT3,← hT4] at hR;rw [show stD ⟨nm,ps,nd,bd,gv⟩=R by rw [hR];unfold stD;dsimp only;rw [hT2,hT3,hT4]];rw [← hL2] at HV2⊢;rw [← hL3] at HV3⊢;rw [← hL4] at HV4⊢;rw [← hsn,← hL1];have HR:=Hd hR;have HT2:=Hd hT2;have HT3:=Hd hT3;have HT4:=Hd hT4;have o1:Only [] w (w.alloc (.cells #[.string sn,.slice a1 L1 c1,.slice a2 L2 c2,.slice a3 L3 c3,.slice a4 L4 c4] 60)):=(Only.refl _ _).alloc _;have HY:=Hd (ag w (.cells #[.string sn,.slice a1 L1 c1,.slice a2 L2 c2,.slice a3 L3 c3,.slice a4 L4 c4] 60));obtain ⟨w1,hw1⟩:∃ w1,w1=w.alloc (.cells #[.string sn,.slice a1 L1 c1,.slice a2 L2 c2,.slice a3 L3 c3,.slice a4 L4 c4] 60):=⟨_,rfl⟩
 rw [← hw1] at o1 HY;have HO1:=Hd o1;have HW:=Hd hw1;clear hsn hL1 hL2 hL3 hL4 hR hT2 hT3 hT4 o1 hw1
 go_enter Tryz.func97,Tryz.ntmps97
 go_upto_region 1 with (fail)
 rw [← HW.out];have oD:Only [] w1 w1.drew:=(Only.refl [] w1).drew;have hYd:=oD.heap HY.out (by simp);refine wp_region_held_drew (S:=fun w'=>w'.cell? ⟨w.heap.size,2,none⟩=some (.slice a2 L2 c2)∧w'.cell? ⟨w.heap.size,3,none⟩=some (.slice a3 L3 c3)∧w'.cell? ⟨w.heap.size,4,none⟩=some (.slice a4 L4 c4)) (by kernel_rfl) ⟨ab 2 hYd,ab 3 hYd,ab 4 hYd⟩ (fun hH=>?_);have HOd:=Hd (HO1.out.trans oD (by simp));have HYd:=Hd hYd;clear oD hYd;generalize w1.drew=wd at HYd HOd hH⊢;refine tk 0 hH ?_;refine tk 1 hH ?_;refine tk 3 hH ?_;refine tk 4 hH ?_;refine tk 7 hH ?_;refine tk 8 hH ?_;refine rd 2 (fun K hK=>?_);go_simp;refine (ju 1000000 (by omega) nd h1 wd _ B (HV2.out.quiet HOd.out)).mono ?_;rintro en w3 ⟨rfl,ho3⟩;have HO3:=Hd (HOd.out.trans ho3 (by simp));have hY3:=ho3.heap HYd.out (by simp);rw [← HT2.out];refine hK.out _ _ ⟨ab 2 hY3,ab 3 hY3,ab 4 hY3⟩ (fun hH=>?_);have HY3:=Hd hY3;clear hK K hY3 ho3;refine rd 5 (fun K hK=>?_);go_simp;refine ((cstb_all 1000000 (by omega)).2 bd h2 w3 _ B hf (HV3.out.quiet HO3.out)).mono ?_;rintro en w4 ⟨rfl,ho4⟩;have HO4:=Hd (HO3.out.trans ho4 (by simp));have hY4:=ho4.heap HY3.out (by simp);rw [← HT3.out];refine hK.out _ _ ⟨ab 2 hY4,ab 3 hY4,ab 4 hY4⟩ (fun hH=>?_);have HY4:=Hd hY4;clear hK K hY4 ho4;have hw1:IntKind.i64.wrap ((T2:Int)+(T3:Int))=(T2:Int)+(T3:Int):=by rw [IntKind.wrap_i64];omega
 refine tk 6 hH ?_;refine rd 9 (fun K hK=>?_);go_simp;refine (ju 1000000 (by omega) gv h3 w4 _ B (HV4.out.quiet HO4.out)).mono ?_;rintro en w5 ⟨rfl,ho5⟩;have HO5:=Hd (HO4.out.trans ho5 (by simp));have hY5:=ho5.heap HY4.out (by simp);rw [← HT4.out];refine hK.out _ _ ⟨ab 2 hY5,ab 3 hY5,ab 4 hY5⟩ (fun hH=>?_);clear hK K hY5 ho5;have hw2:IntKind.i64.wrap ((T2:Int)+(T3:Int)+(T4:Int))=(T2:Int)+(T3:Int)+(T4:Int):=by rw [IntKind.wrap_i64];omega
 by_cases hm:T2+T3+T4≤2049
 ·have hmm:¬ (2049:Int) < (T2:Int)+(T3:Int)+(T4:Int):=by omega
  refine tk 10 hH ?_;refine tk 11 hH ?_;refine tk 12 hH ?_;refine wpAnyH_done (by kernel_rfl) ?_ _;clear hH;go_wp2_with fail
  go_ret;rw [HR.out,Nat.min_eq_left hm];exact ⟨by simp<;>omega,HO5.out⟩
 ·have hmm:(2049:Int) < (T2:Int)+(T3:Int)+(T4:Int):=by omega
  refine tk 10 hH ?_;refine tk 11 hH ?_;refine tk 12 hH ?_;refine wpAnyH_done (by kernel_rfl) ?_ _;clear hH;go_wp2_with fail
  go_ret;rw [HR.out,Nat.min_eq_right (by omega)];exact ⟨by simp<;>omega,HO5.out⟩
end Go.Proofs.YtcebchffcmpfeaaGreat
