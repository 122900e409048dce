import Derived.Test.YtheanmadognhbaaGreatDoorQct
namespace Go.Proofs.YtheanmadognhbaaGreatDoor
set_option linter.unusedVariables false
set_option linter.unusedSimpArgs false
set_option maxRecDepth 100000
set_option maxHeartbeats 16000000
open Go.RowKit Go.Maps
mutual
def stW:St→Int
 | .mk k _ xs n bd els _=>if k=6 then wrap64 (((1+ak xs:Nat):Int)+(if km 0 bd < km 0 els then km 0 els else km 0 bd))
  else if k=7∨k=8 then wrap64 (((1+ak xs:Nat):Int)+wrap64 (n*wrap64 (1+km 0 bd))) else ((1+ak xs:Nat):Int)
def km:Int→List St→Int
 | acc,[]=>acc
 | acc,x :: xs=>km (if 1073741824 < wrap64 (acc+stW x) then 1073741824 else wrap64 (acc+stW x)) xs
end
mutual
theorem stW_few:∀ x:St,aQ x≤1000000→pw x→stW x=(stN x:Nat)∧stN x≤70000000000
 | .mk k nm xs n bd els p,hs,hf=>by
  rw [b8] at hs;unfold pw at hf;obtain ⟨f1,f2,f3⟩:=hf;have h1:=i6 bd 0 (by omega) (by omega) f2;have h2:=i6 els 0 (by omega) (by omega) f3;have l1:=mq bd 0 (by omega);have l2:=mq els 0 (by omega);have h1:km 0 bd=(fd 0 bd:Nat):=h1;have h2:km 0 els=(fd 0 els:Nat):=h2;unfold stW stN
  by_cases h6:k=6
  ·rw [if_pos h6,if_pos h6,h1,h2];have e:(if ((fd 0 bd:Nat):Int) < ((fd 0 els:Nat):Int) then ((fd 0 els:Nat):Int) else ((fd 0 bd:Nat):Int))=((max (fd 0 bd) (fd 0 els):Nat):Int):=by split<;>omega
   rw [e];refine ⟨?_,by omega⟩;rw [aK (by omega) (by omega)];omega
  ·rw [if_neg h6,if_neg h6]
   by_cases h7:k=7∨k=8
   ·rw [if_pos h7,if_pos h7,h1];obtain ⟨n0,n1⟩:=f1 h7;have hm:n.toNat*(1+fd 0 bd)≤64*(1+1073741824):=Nat.mul_le_mul (by omega) (by omega);have e:n*(1+((fd 0 bd:Nat):Int))=((n.toNat*(1+fd 0 bd):Nat):Int):=by
     push_cast;rw [show ((n.toNat:Nat):Int)=n by omega]
    refine ⟨?_,by omega⟩;rw [aK (n:=1+((fd 0 bd:Nat):Int)) (by omega) (by omega),e];generalize n.toNat*(1+fd 0 bd)=M at hm;rw [aK (n:=(M:Int)) (by omega) (by omega),aK (by omega) (by omega)];omega
   ·rw [if_neg h7,if_neg h7];exact ⟨by omega,by omega⟩
theorem i6:∀ (xs:List St) (a:Nat),ah xs≤1000000→a≤1073741824→ju xs→km a xs=(fd a xs:Nat)
 | [],a,_,_,_=>by unfold km fd;rfl
 | x :: xs,a,hs,ha,hf=>by
  rw [bH] at hs;unfold ju at hf;obtain ⟨h1,h2⟩:=stW_few x (by omega) hf.1;unfold km fd;rw [h1,aK (by omega) (by omega)];have e:(if (1073741824:Int) < (a:Int)+((stN x:Nat):Int) then (1073741824:Int) else (a:Int)+((stN x:Nat):Int))=((min (a+stN x) 1073741824:Nat):Int):=by split<;>omega
  rw [e];exact i6 xs _ (by omega) (by omega) hf.2
end
theorem xt {acc:Int} {xs:List St} {j:Nat} {e:St} (hj:xs[j]?=some e):km acc (xs.drop j)=km (if 1073741824 < wrap64 (acc+stW e) then 1073741824 else wrap64 (acc+stW e)) (xs.drop (j+1)):=by
 obtain ⟨hlt,rfl⟩:=List.getElem?_eq_some_iff.1 hj;rw [List.drop_eq_getElem_cons hlt]
 conv=>lhs;unfold km
def CStwP (N:Nat):Prop:=∀ (xs:List St),ah xs≤N→∀ (w:World) (v:Value) (B:Nat→Prop),SsV w B v xs→Calls Tryz.prog 58 #[v] w fun en w'=>en=.returned (.int .i64 (km 0 xs))∧Only [] w w'
theorem qf (N:Nat) (hNN:N≤1000000) (IS:∀ M,M < N→CStwP M):CStwP N:=by
 intro xs hN w v B hv;obtain ⟨a,cap,rfl,-⟩:=id hv;have hlen:=bg xs;obtain ⟨n,hn⟩:∃ n,n=xs.length:=⟨_,rfl⟩
 rw [← hn] at hlen hv⊢;have HV:=Hd hv;have HN:=Hd hn;have hnb:n≤1000000:=by omega
 obtain ⟨R,hR⟩:∃ R,R=km 0 xs:=⟨_,rfl⟩
 rw [← hR];have HR:=Hd hR;clear hv hn hR
 go_enter Tryz.func58,Tryz.ntmps58
 go_wp2_with fail
 go_loopg [3,4] n (fun gk st ix wr=>∃ (j:Nat) (T:Int),j≤n∧j+gk=n∧ix=.int .i64 (j:Int)∧st=.int .i64 T∧Hid (R=km T (xs.drop j))∧Hid (Only [] w wr))
 case atStart=>exact ⟨0,0,Nat.zero_le _,by omega,rfl,rfl,Hd (by rw [HR.out,List.drop_zero]),Hd (Only.refl _ _)⟩
 case round=>
  obtain ⟨j,T,hjn,hjg,rfl,rfl,HT,HO⟩:=hrel
  by_cases hlt:j < n
  ·have hlt':(j:Int) < (n:Int):=by omega
   have j0:(0:Int)≤(j:Int):=by omega
   obtain ⟨-,gr,k,nm,ys,nn,bd,els,p,a0,c0,a1,c1,a2,c2,rfl,he,x0,x1,x2,x3,x4,x5,x6,hv0,hv1,hv2⟩:=(HV.out.quiet HO.out).elem hlt;have hT1:=bn he;rw [b8] at hT1;have hT:=HT.out;rw [xt he] at hT;obtain ⟨Y,hY⟩:∃ Y,Y=stW (.mk k nm ys nn bd els p):=⟨_,rfl⟩
   rw [← hY] at hT;unfold stW at hY;have I1:=IS _ (show ah bd < N by omega) bd (Nat.le_refl _);have I2:=IS _ (show ah els < N by omega) els (Nat.le_refl _);obtain ⟨L0,hL0⟩:∃ L,L=ys.length:=⟨_,rfl⟩
   obtain ⟨L1,hL1⟩:∃ L,L=bd.length:=⟨_,rfl⟩
   obtain ⟨L2,hL2⟩:∃ L,L=els.length:=⟨_,rfl⟩
   obtain ⟨sn,hsn⟩:∃ sn,sn=ai nm:=⟨_,rfl⟩
   have hl0:=dF ys;rw [← hL0] at x2 hv0 hl0;rw [← hL1] at x4 hv1;rw [← hL2] at x5 hv2;rw [← hsn] at x1;obtain ⟨S1,hS1⟩:∃ S,S=km 0 bd:=⟨_,rfl⟩
   obtain ⟨S2,hS2⟩:∃ S,S=km 0 els:=⟨_,rfl⟩
   rw [← hS1] at hY I1;rw [← hS2] at hY I2;have HV0:=Hd hv0;have HV1:=Hd hv1;have HV2:=Hd hv2;have HI1:=Hd I1;have HI2:=Hd I2;have HT2:=Hd hT;have HY:=Hd hY;have HL0:=Hd hL0;have hyl:ak ys≤1000000:=by omega
   clear he hT hL0 hL1 hL2 hsn hv0 hv1 hv2 hT1 hlen hN I1 I2 hY hS1 hS2;(go_upto_region 8 with (fail));obtain ⟨w1,q9,oA,hb,-⟩:=nb wr (.cells #[.int .i64 k,.string sn,.slice a0 L0 c0,.int .i64 nn,.slice a1 L1 c1,.slice a2 L2 c2,.int .i64 p] 112);rw [← q9];clear q9;obtain ⟨gb,hgb⟩:∃ gb,gb=wr.heap.size:=⟨_,rfl⟩
   rw [← hgb] at hb⊢;have HB1:=Hd hb;have HO1:=Hd (HO.out.trans oA (by simp));have HVa:=Hd (HV0.out.quiet oA);have HVb:=Hd (HV1.out.quiet oA);have HVc:=Hd (HV2.out.quiet oA);clear oA hb hgb x0 x1 x2 x3 x4 x5 x6 HV0 HV1 HV2;obtain ⟨wo,hwo⟩:∃ wo:World,wo=w1:=⟨_,rfl⟩
   go_loopg [6,7] L0 (fun g2 st ix wq=>∃ (i K:Nat),i≤L0∧i+g2=L0∧ix=.int .i64 (i:Int)∧st=.int .i64 (K:Int)∧Hid (K=1+ak (ys.take i))∧Hid (Only [] wo wq))
   case atStart=>exact ⟨0,1,Nat.zero_le _,by omega,rfl,rfl,Hd (by simp [ak]),Hd (by rw [hwo];exact Only.refl _ _)⟩
   case round=>
    obtain ⟨i,K,hin,hig,rfl,rfl,HK,HOi⟩:=hrel;subst hwo;have hb:=HOi.out.heap HB1.out (by simp);have y2:wr.cell? ⟨gb,2,none⟩=some (.slice a0 L0 c0):=ab 2 hb
    by_cases hil:i < L0
    ·have hil':(i:Int) < (L0:Int):=by omega
     have i0:(0:Int)≤(i:Int):=by omega
     obtain ⟨-,gq,k',nn',nm',zs,p',a',c',rfl,he',x0,x1,x2,x3,x4,hv'⟩:=(HVa.out.quiet HOi.out).elem hil;have hT1:=bu he';have hT2:=bQ he';have hT3:=aV ys (i+1);obtain ⟨e',hee⟩:∃ e',e'=E.mk k' nn' nm' zs p':=⟨_,rfl⟩
     obtain ⟨sn',hsn'⟩:∃ s,s=ai nm':=⟨_,rfl⟩
     obtain ⟨L,hL⟩:∃ L,L=zs.length:=⟨_,rfl⟩
     have hev:EV wr B e' [.int .i64 k',.int .i64 nn',.string sn',.slice a' L c',.int .i64 p']:=by rw [hee,hsn',hL];exact EV.mk' hv'
     rw [← hee] at hT1 hT2;rw [← hsn'] at x2;rw [← hL] at x3;have K1:=kh 1000000 (Nat.le_refl _) e' (by omega) wr _ B hev;obtain ⟨Z,hZ⟩:∃ Z,Z=aw e':=⟨_,rfl⟩
     rw [← hZ] at K1 hT2;have hTT:1+ak (ys.take (i+1))=K+Z:=by rw [HK.out,hT2];omega
     have hb1:K+Z≤1000001:=by omega
     have HTT:=Hd hTT;clear hT1 hT2 hT3 hee hsn' hL hev hZ hTT he' hv' hb;(go_wp2_with fail);refine K1.mono ?_;rintro en w6 ⟨rfl,ho6⟩;have HO6:=Hd (HOi.out.trans ho6 (by simp));clear ho6 K1 x0 x1 x2 x3 x4 y2;go_wp2_with fail
     go_roundg (L0 - (i+1))
     case measure=>omega
     case rel=>exact ⟨i+1,K+Z,by omega,by omega,by go_num,by simp,Hd HTT.out.symm,HO6⟩
    ·obtain rfl:i=L0:=by omega
     have hil':¬ (i:Int) < (i:Int):=by omega
     have hK:K=1+ak ys:=by rw [HK.out,HL0.out,List.take_length]
     have hKb:K≤1000001:=by omega
     have y0:wr.cell? ⟨gb,0,none⟩=some (.int .i64 k):=ab 0 hb;have y3:wr.cell? ⟨gb,3,none⟩=some (.int .i64 nn):=ab 3 hb;have y4:wr.cell? ⟨gb,4,none⟩=some (.slice a1 L1 c1):=ab 4 hb;have y5:wr.cell? ⟨gb,5,none⟩=some (.slice a2 L2 c2):=ab 5 hb;have hY:=HY.out;rw [← hK] at hY;have HBW:=Hd hb;have HOW:=Hd (HO1.out.trans HOi.out (by simp));have HVb2:=Hd (HVb.out.quiet HOi.out);have HVc2:=Hd (HVc.out.quiet HOi.out);clear hb hK HVa HVb HVc HO1 HOi HK HL0 HY HB1 hil
     by_cases h6:k=6
     ·subst h6;rw [if_pos rfl] at hY;have HY2:=Hd hY;have K1:=HI1.out wr _ B HVb2.out;clear hY;(go_wp2_with fail);refine K1.mono ?_;rintro en w6 ⟨rfl,ho6⟩;have y0':=ae ho6 y0 (by simp);have y5':=ae ho6 y5 (by simp);have K2:=HI2.out w6 _ B (HVc2.out.quiet ho6);have HO6:=Hd (HOW.out.trans ho6 (by simp));clear K1 ho6 y0 y2 y3 y4 y5;(go_wp2_with fail);refine K2.mono ?_;rintro en w7 ⟨rfl,ho7⟩;have y0:=ae ho7 y0' (by simp);have HO7:=Hd (HO6.out.trans ho7 (by simp));clear K2 ho7 y0' y5'
      by_cases hs12:S1 < S2
      ·have hYY:Y=wrap64 ((K:Int)+S2):=by rw [HY2.out,if_pos hs12]
       have HYY:=Hd hYY;clear hYY;(go_upto_region 19 with (fail));rw [← HYY.out];have HOF:=HO7;obtain ⟨T2,hT2⟩:∃ T2,T2=wrap64 (T+Y):=⟨_,rfl⟩
       have HTE:=Hd hT2;have hRT:=HT2.out;rw [← hT2] at hRT;clear hT2
       by_cases hbig:1073741824 < T2
       ·rw [if_pos hbig] at hRT;have HRT:=Hd hRT;clear hRT;(go_upto_region 20 with (fail));rw [← HTE.out];go_wp2_with fail
        go_roundg (n - (j+1))
        case measure=>omega
        case rel=>exact ⟨j+1,1073741824,by omega,by omega,by go_num,rfl,HRT,HOF⟩
       ·rw [if_neg hbig] at hRT;have HRT:=Hd hRT;clear hRT;(go_upto_region 20 with (fail));rw [← HTE.out];go_wp2_with fail
        go_roundg (n - (j+1))
        case measure=>omega
        case rel=>exact ⟨j+1,T2,by omega,by omega,by go_num,rfl,HRT,HOF⟩
      ·have hYY:Y=wrap64 ((K:Int)+S1):=by rw [HY2.out,if_neg hs12]
       have HYY:=Hd hYY;clear hYY;(go_upto_region 19 with (fail));rw [← HYY.out];have HOF:=HO7;obtain ⟨T2,hT2⟩:∃ T2,T2=wrap64 (T+Y):=⟨_,rfl⟩
       have HTE:=Hd hT2;have hRT:=HT2.out;rw [← hT2] at hRT;clear hT2
       by_cases hbig:1073741824 < T2
       ·rw [if_pos hbig] at hRT;have HRT:=Hd hRT;clear hRT;(go_upto_region 20 with (fail));rw [← HTE.out];go_wp2_with fail
        go_roundg (n - (j+1))
        case measure=>omega
        case rel=>exact ⟨j+1,1073741824,by omega,by omega,by go_num,rfl,HRT,HOF⟩
       ·rw [if_neg hbig] at hRT;have HRT:=Hd hRT;clear hRT;(go_upto_region 20 with (fail));rw [← HTE.out];go_wp2_with fail
        go_roundg (n - (j+1))
        case measure=>omega
        case rel=>exact ⟨j+1,T2,by omega,by omega,by go_num,rfl,HRT,HOF⟩
     ·rw [if_neg h6] at hY;have h6':(k == 6)=false:=by simpa using h6
      by_cases h78:k=7∨k=8
      ·rw [if_pos h78] at hY;have HY2:=Hd hY;clear hY h6;rcases h78 with h7 | h7<;>
       ·subst h7;(go_upto_region 18 with (fail));have oD:Only [] wr wr.drew:=(Only.refl [] wr).drew;refine wp_region_held_drew (S:=fun w'=>w'.cell? ⟨gb,3,none⟩=some (.int .i64 nn)∧w'.cell? ⟨gb,4,none⟩=some (.slice a1 L1 c1)) (by kernel_rfl) ⟨ae oD y3 (by simp),ae oD y4 (by simp)⟩ (fun hH=>?_);have HO9:=Hd (HOW.out.trans oD (by simp));have HBD:=Hd (oD.heap HBW.out (by simp));have HVD:=Hd (HVb2.out.quiet oD);clear oD y0 y2 y3 y4 y5;generalize wr.drew=wd at HO9 HBD HVD hH⊢;refine tk 0 hH ?_;refine tk 1 hH ?_;refine tk 2 hH ?_;refine tk 3 hH ?_;refine tk 4 hH ?_;refine rd 5 (fun K hK=>?_);go_simp;refine (HI1.out wd _ B HVD.out).mono ?_;rintro en w7 ⟨rfl,ho7⟩;have HO7:=Hd (HO9.out.trans ho7 (by simp));have hbz:=ho7.heap HBD.out (by simp);refine hK.out _ _ ⟨ab 3 hbz,ab 4 hbz⟩ (fun hH=>?_);clear hK K ho7 hbz;refine tk 6 hH ?_;refine tk 7 hH ?_;refine tk 8 hH ?_;refine tk 9 hH ?_;refine wpAnyH_done (by kernel_rfl) ?_ _;have hYY:Y=IntKind.i64.wrap (((K:Nat):Int)+IntKind.i64.wrap (nn*IntKind.i64.wrap (1+S1))):=by rw [HY2.out,IntWalk.i64_left,IntWalk.i64_left,IntWalk.i64_left]
        have HYY:=Hd hYY;clear hH hYY;(go_upto_region 19 with (fail));rw [← HYY.out];have HOF:=HO7;obtain ⟨T2,hT2⟩:∃ T2,T2=wrap64 (T+Y):=⟨_,rfl⟩
        have HTE:=Hd hT2;have hRT:=HT2.out;rw [← hT2] at hRT;clear hT2
        by_cases hbig:1073741824 < T2
        ·rw [if_pos hbig] at hRT;have HRT:=Hd hRT;clear hRT;(go_upto_region 20 with (fail));rw [← HTE.out];go_wp2_with fail
         go_roundg (n - (j+1))
         case measure=>omega
         case rel=>exact ⟨j+1,1073741824,by omega,by omega,by go_num,rfl,HRT,HOF⟩
        ·rw [if_neg hbig] at hRT;have HRT:=Hd hRT;clear hRT;(go_upto_region 20 with (fail));rw [← HTE.out];go_wp2_with fail
         go_roundg (n - (j+1))
         case measure=>omega
         case rel=>exact ⟨j+1,T2,by omega,by omega,by go_num,rfl,HRT,HOF⟩
      ·rw [if_neg h78] at hY;have h7':(k == 7)=false:=by simp only [beq_eq_false_iff_ne];exact fun e=>h78 (.inl e)
       have h8':(k == 8)=false:=by simp only [beq_eq_false_iff_ne];exact fun e=>h78 (.inr e)
       have HYY:=Hd hY;clear hY h6 h78;(go_upto_region 19 with (fail));rw [← HYY.out];have HOF:=HOW;obtain ⟨T2,hT2⟩:∃ T2,T2=wrap64 (T+Y):=⟨_,rfl⟩
       have HTE:=Hd hT2;have hRT:=HT2.out;rw [← hT2] at hRT;clear hT2
       by_cases hbig:1073741824 < T2
       ·rw [if_pos hbig] at hRT;have HRT:=Hd hRT;clear hRT;(go_upto_region 20 with (fail));rw [← HTE.out];go_wp2_with fail
        go_roundg (n - (j+1))
        case measure=>omega
        case rel=>exact ⟨j+1,1073741824,by omega,by omega,by go_num,rfl,HRT,HOF⟩
       ·rw [if_neg hbig] at hRT;have HRT:=Hd hRT;clear hRT;(go_upto_region 20 with (fail));rw [← HTE.out];go_wp2_with fail
        go_roundg (n - (j+1))
        case measure=>omega
        case rel=>exact ⟨j+1,T2,by omega,by omega,by go_num,rfl,HRT,HOF⟩
  ·obtain rfl:j=n:=by omega
   have hT:R=T:=by rw [HT.out,HN.out,List.drop_length];unfold km;rfl
   have HTT:=Hd hT;clear hT;(go_wp2_with fail);go_ret;rw [HTT.out];exact ⟨rfl,HO.out⟩
theorem tI (N:Nat) (hN:N≤1000000):CStwP N:=by
 induction N using Nat.strongRecOn with
 | _ N ih=>exact qf N hN (fun M hM=>ih M hM (by omega))
end Go.Proofs.YtheanmadognhbaaGreatDoor
