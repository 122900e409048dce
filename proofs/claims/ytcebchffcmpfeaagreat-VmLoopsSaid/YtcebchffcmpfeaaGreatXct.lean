import Derived.Test.YtcebchffcmpfeaaGreatXbt
namespace Go.Proofs.YtcebchffcmpfeaaGreat
set_option linter.unusedVariables false
set_option linter.unusedSimpArgs false
set_option maxRecDepth 100000
set_option maxHeartbeats 16000000
open Go.RowKit Go.Maps
theorem CV.instrs_at {w:World} {c:Cd} {a1 a2:Option Addr} {n1 c1 n2 c2:Nat} (h:CV w c a1 n1 c1 a2 n2 c2) (hn:0 < n1):∃ g o,a1=some ⟨g,o,none⟩∧∀ j:Nat,j < n1→w.cell? ⟨g,o+j*2,none⟩=some (.int .i64 (c.ins.getD j (0,0)).1)∧w.cell? ⟨g,o+j*2+1,none⟩=some (.int .i64 (c.ins.getD j (0,0)).2):=by
 obtain ⟨i,g,o,-,rfl,-,-⟩:=h.instr hn;refine ⟨g,o,rfl,fun j hj=>?_⟩;obtain ⟨i',g',o',hi,e,z0,z1⟩:=h.instr hj;injection e with e
 injection e with e1 e2 _
 subst e1 e2;rw [List.getD_eq_getElem?_getD,hi];exact ⟨z0,z1⟩
theorem gD {w:World} {g:Nat} {u v:Value} {t:TypeId} (x y:Value) (h:w.heap[g]?=some (.cells #[u,v] t (0,0))):((w.setCell ⟨g,0,none⟩ x).setCell ⟨g,1,none⟩ y).heap[g]?=some (.cells #[x,y] t (0,0)):=by
 have h1:=af (i:=0) x h;have h2:=af (i:=1) y h1;exact h2
theorem qo {w:World} {c:Cd} {a1 a2:Option Addr} {n1 c1 n2 c2:Nat} (h:CV w c a1 n1 c1 a2 n2 c2) (hb:∀ l∈c.loops,2≤l.fr∧l.fr≤l.lst∧l.lst < c.ins.length):Calls Tryz.prog 46 #[.agg #[.int .i64 c.params,.int .i64 c.locals,.slice a1 n1 c1,.slice a2 n2 c2]] w fun e w'=>e=.returned (.bool (headC c))∧Only [] w w':=by
 obtain ⟨R,hR⟩:∃ R,R=headC c:=⟨_,rfl⟩
 rw [← hR];have HR:=Hd (show R=mF (jS c) (c.loops.drop 0) 0 from hR);have HBB:=Hd hb;clear hR hb
 go_enter Tryz.func46,Tryz.ntmps46
 go_upto_region 1 with (fail)
 obtain ⟨w1,q9,o1,hK,-⟩:=nb w (.cells #[.int .i64 c.params,.int .i64 c.locals,.slice a1 n1 c1,.slice a2 n2 c2] 76);rw [← q9];clear q9;obtain ⟨g,hg⟩:∃ g,g=w.heap.size:=⟨_,rfl⟩
 rw [← hg] at hK⊢;have hgl:=ak hK;have HO:=Hd o1;have HK:=Hd hK;have HC:=Hd (h.quiet o1);have b1:=h.b1;have b2:=h.b2;have HN:=Hd (And.intro h.e1 h.e2);clear h o1 hK hg;have k0:w1.cell? ⟨g,0,none⟩=some (.int .i64 c.params):=ab 0 HK.out;have k1:w1.cell? ⟨g,1,none⟩=some (.int .i64 c.locals):=ab 1 HK.out;have k2:w1.cell? ⟨g,2,none⟩=some (.slice a1 n1 c1):=ab 2 HK.out;have k3:w1.cell? ⟨g,3,none⟩=some (.slice a2 n2 c2):=ab 3 HK.out;go_wp2_with fail
 go_loopw [11] (fun ix wr=>∃ j:Nat,j≤n2∧ix=.int .i64 (j:Int)∧Hid (R=mF (jS c) (c.loops.drop j) j)∧Hid (Only [] w1 wr)) (fun ix _=>n2 - (intOf ix).toNat)
 case atStart=>exact ⟨0,Nat.zero_le _,rfl,HR,Hd (Only.refl _ _)⟩
 case round=>
  obtain ⟨j,hjn,rfl,HT,HW⟩:=hrel;clear HR k0 k1 k2 k3;have hK:=HW.out.heap HK.out (by simp);have k0:wr.cell? ⟨g,0,none⟩=some (.int .i64 c.params):=ab 0 hK;have k1:wr.cell? ⟨g,1,none⟩=some (.int .i64 c.locals):=ab 1 hK;have k2:wr.cell? ⟨g,2,none⟩=some (.slice a1 n1 c1):=ab 2 hK;have k3:wr.cell? ⟨g,3,none⟩=some (.slice a2 n2 c2):=ab 3 hK
  by_cases hlt:j < n2
  ·have hlt':(j:Int) < (n2:Int):=by omega
   have j0:(0:Int)≤(j:Int):=by omega
   have hCV:=HC.out.quiet HW.out;obtain ⟨l,gl,o,hl,rfl,z0,z1,z2,z3⟩:=hCV.loop hlt;have hbl:=HBB.out l (List.mem_of_getElem? hl);rw [← HN.out.1] at hbl;have HT2:=Hd (HT.out.trans (jX hl));clear hl hK HT hCV;(go_upto_region 4 with (fail));obtain ⟨w2,q9,oB,hB,-⟩:=nb wr (.cells #[.int .i64 l.loc,.int .i64 l.n,.int .i64 l.fr,.int .i64 l.lst] 54);rw [← q9];clear q9;obtain ⟨gb,hgb⟩:∃ g,g=wr.heap.size:=⟨_,rfl⟩
   rw [← hgb] at hB⊢;have y0:w2.cell? ⟨gb,0,none⟩=some (.int .i64 l.loc):=ab 0 hB;have y1:w2.cell? ⟨gb,1,none⟩=some (.int .i64 l.n):=ab 1 hB;have y2:w2.cell? ⟨gb,2,none⟩=some (.int .i64 l.fr):=ab 2 hB;have y3:w2.cell? ⟨gb,3,none⟩=some (.int .i64 l.lst):=ab 3 hB;have HW2:=Hd (HW.out.trans oB (by simp));have HB:=Hd hB;clear oB hB hgb;clear k0 k1 k2 k3 z0 z1 z2 z3 y1 y2 y3;have HY0:=Hd y0
   go_cut [5,6] from 16 to 19 (fun s5 s6 wx=>∃ q5 q6,s5=.pointer (some ⟨q5,0,none⟩)∧s6=.pointer (some ⟨q6,0,none⟩)∧Hid (Only [] w2 wx)∧Hid (wx.heap[q5]?=some (.cells #[.int .i64 1,.int .i64 0] 52 (0,0)))∧Hid (wx.heap[q6]?=some (.cells #[.int .i64 3,.int .i64 l.loc] 52 (0,0))))
   case first=>
    clear y0;have oD:Only [] w2 w2.drew:=(Only.refl [] w2).drew;refine wp_region_held_drew (S:=fun w'=>w'.cell? ⟨gb,0,none⟩=some (.int .i64 l.loc)) (by kernel_rfl) (ac oD HY0.out (by simp)) (fun hH=>?_);generalize w2.drew=wd at oD hH⊢;have HOZ:=Hd oD;clear oD;refine tk 0 hH ?_;refine tk 1 hH ?_;refine tk 2 hH ?_;refine tk 3 hH ?_;refine wpAnyH_ready (rs:=[4,5]) (by kernel_rfl) (by simp) ?_;refine ue rfl rfl (fun K hK=>?_) (fun K hK=>?_)<;>go_simp
    ·
     obtain ⟨wa,q9,oA,hA,-⟩:=nb wd (.cells #[.int .i64 0,.int .i64 0] 52);rw [← q9];clear q9;obtain ⟨q5,hgq⟩:∃ gq,gq=wd.heap.size:=⟨_,rfl⟩
     rw [← hgq] at hA⊢;have HHq5:=Hd hA;have HGq5:=Hd (show w2.heap.size≤q5 by rw [hgq];exact HOZ.out.size);replace HOZ:=Hd (HOZ.out.trans oA (by simp));refine hK.out _ _ (ac HOZ.out HY0.out (by simp)) (fun hH=>?_);clear hK K oA hA hgq;refine rd 5 (fun K hK=>?_);go_simp;obtain ⟨wb,q9,oA,hA,-⟩:=nb wa (.cells #[.int .i64 0,.int .i64 0] 52);rw [← q9];clear q9;obtain ⟨q6,hgq⟩:∃ gq,gq=wa.heap.size:=⟨_,rfl⟩
     rw [← hgq] at hA⊢;have HHq6:=Hd hA;have HGq6:=Hd (show w2.heap.size≤q6 by rw [hgq];exact HOZ.out.size);have hne:q5≠q6:=by have:=ak HHq5.out;omega
     replace HHq5:=Hd (oA.heap HHq5.out (by simp));replace HOZ:=Hd (HOZ.out.trans oA (by simp));refine hK.out _ _ (ac HOZ.out HY0.out (by simp)) (fun hH=>?_);clear hK K oA hA hgq;have HNE:=Hd hne;clear hne;have q0:wb.cell? ⟨q5,0,none⟩=some (.int .i64 0):=ab 0 HHq5.out;have q1:wb.cell? ⟨q5,1,none⟩=some (.int .i64 0):=ab 1 HHq5.out;have f0:=ae 0 HHq5.out;have f1:=ae 1 HHq5.out;refine rd 6 (fun K hK=>?_);go_simp;have oz:Only [] w2 ((wb.setCell ⟨q5,0,none⟩ (.int .i64 1)).setCell ⟨q5,1,none⟩ (.int .i64 0)):=(HOZ.out.setCell (.inr HGq5.out) _).setCell (.inr HGq5.out) _;have hz:=gD (.int .i64 1) (.int .i64 0) HHq5.out;have o5:Only [q5] wb ((wb.setCell ⟨q5,0,none⟩ (.int .i64 1)).setCell ⟨q5,1,none⟩ (.int .i64 0)):=oc;have h6:=o5.heap HHq6.out (by simpa using HNE.out.symm);clear o5;generalize (wb.setCell ⟨q5,0,none⟩ (.int .i64 1)).setCell ⟨q5,1,none⟩ (.int .i64 0)=wz at oz hz h6⊢;refine hK.out _ _ (ac oz HY0.out (by simp)) (fun hH=>?_);clear hK K q0 q1 f0 f1;have q0:wz.cell? ⟨q6,0,none⟩=some (.int .i64 0):=ab 0 h6;have q1:wz.cell? ⟨q6,1,none⟩=some (.int .i64 0):=ab 1 h6;have f0:=ae 0 h6;have f1:=ae 1 h6;have HOY:=Hd oz;have HZ5:=Hd hz;have HZ6:=Hd h6;clear oz hz h6;refine rd 7 (fun K hK=>?_);go_simp;have oz:Only [] w2 ((wz.setCell ⟨q6,0,none⟩ (.int .i64 3)).setCell ⟨q6,1,none⟩ (.int .i64 l.loc)):=(HOY.out.setCell (.inr HGq6.out) _).setCell (.inr HGq6.out) _;have hz:=gD (.int .i64 3) (.int .i64 l.loc) HZ6.out;have o5:Only [q6] wz ((wz.setCell ⟨q6,0,none⟩ (.int .i64 3)).setCell ⟨q6,1,none⟩ (.int .i64 l.loc)):=oc;have h6:=o5.heap HZ5.out (by simpa using HNE.out);clear o5;generalize (wz.setCell ⟨q6,0,none⟩ (.int .i64 3)).setCell ⟨q6,1,none⟩ (.int .i64 l.loc)=wy at oz hz h6⊢;refine hK.out _ _ (ac oz HY0.out (by simp)) (fun hH=>?_);clear hK K q0 q1 f0 f1;refine wpAnyH_done (by kernel_rfl) ?_ _;clear hH;go_wp2_with fail
     go_meet
     exact ⟨q5,q6,rfl,rfl,Hd oz,Hd h6,Hd hz⟩
    ·
     obtain ⟨wa,q9,oA,hA,-⟩:=nb wd (.cells #[.int .i64 0,.int .i64 0] 52);rw [← q9];clear q9;obtain ⟨q6,hgq⟩:∃ gq,gq=wd.heap.size:=⟨_,rfl⟩
     rw [← hgq] at hA⊢;have HHq6:=Hd hA;have HGq6:=Hd (show w2.heap.size≤q6 by rw [hgq];exact HOZ.out.size);replace HOZ:=Hd (HOZ.out.trans oA (by simp));refine hK.out _ _ (ac HOZ.out HY0.out (by simp)) (fun hH=>?_);clear hK K oA hA hgq;refine rd 4 (fun K hK=>?_);go_simp;obtain ⟨wb,q9,oA,hA,-⟩:=nb wa (.cells #[.int .i64 0,.int .i64 0] 52);rw [← q9];clear q9;obtain ⟨q5,hgq⟩:∃ gq,gq=wa.heap.size:=⟨_,rfl⟩
     rw [← hgq] at hA⊢;have HHq5:=Hd hA;have HGq5:=Hd (show w2.heap.size≤q5 by rw [hgq];exact HOZ.out.size);have hne:q5≠q6:=by have:=ak HHq6.out;omega
     replace HHq6:=Hd (oA.heap HHq6.out (by simp));replace HOZ:=Hd (HOZ.out.trans oA (by simp));refine hK.out _ _ (ac HOZ.out HY0.out (by simp)) (fun hH=>?_);clear hK K oA hA hgq;have HNE:=Hd hne;clear hne;have q0:wb.cell? ⟨q5,0,none⟩=some (.int .i64 0):=ab 0 HHq5.out;have q1:wb.cell? ⟨q5,1,none⟩=some (.int .i64 0):=ab 1 HHq5.out;have f0:=ae 0 HHq5.out;have f1:=ae 1 HHq5.out;refine rd 6 (fun K hK=>?_);go_simp;have oz:Only [] w2 ((wb.setCell ⟨q5,0,none⟩ (.int .i64 1)).setCell ⟨q5,1,none⟩ (.int .i64 0)):=(HOZ.out.setCell (.inr HGq5.out) _).setCell (.inr HGq5.out) _;have hz:=gD (.int .i64 1) (.int .i64 0) HHq5.out;have o5:Only [q5] wb ((wb.setCell ⟨q5,0,none⟩ (.int .i64 1)).setCell ⟨q5,1,none⟩ (.int .i64 0)):=oc;have h6:=o5.heap HHq6.out (by simpa using HNE.out.symm);clear o5;generalize (wb.setCell ⟨q5,0,none⟩ (.int .i64 1)).setCell ⟨q5,1,none⟩ (.int .i64 0)=wz at oz hz h6⊢;refine hK.out _ _ (ac oz HY0.out (by simp)) (fun hH=>?_);clear hK K q0 q1 f0 f1;have q0:wz.cell? ⟨q6,0,none⟩=some (.int .i64 0):=ab 0 h6;have q1:wz.cell? ⟨q6,1,none⟩=some (.int .i64 0):=ab 1 h6;have f0:=ae 0 h6;have f1:=ae 1 h6;have HOY:=Hd oz;have HZ5:=Hd hz;have HZ6:=Hd h6;clear oz hz h6;refine rd 7 (fun K hK=>?_);go_simp;have oz:Only [] w2 ((wz.setCell ⟨q6,0,none⟩ (.int .i64 3)).setCell ⟨q6,1,none⟩ (.int .i64 l.loc)):=(HOY.out.setCell (.inr HGq6.out) _).setCell (.inr HGq6.out) _;have hz:=gD (.int .i64 3) (.int .i64 l.loc) HZ6.out;have o5:Only [q6] wz ((wz.setCell ⟨q6,0,none⟩ (.int .i64 3)).setCell ⟨q6,1,none⟩ (.int .i64 l.loc)):=oc;have h6:=o5.heap HZ5.out (by simpa using HNE.out);clear o5;generalize (wz.setCell ⟨q6,0,none⟩ (.int .i64 3)).setCell ⟨q6,1,none⟩ (.int .i64 l.loc)=wy at oz hz h6⊢;refine hK.out _ _ (ac oz HY0.out (by simp)) (fun hH=>?_);clear hK K q0 q1 f0 f1;refine wpAnyH_done (by kernel_rfl) ?_ _;clear hH;go_wp2_with fail
     go_meet
     exact ⟨q5,q6,rfl,rfl,Hd oz,Hd h6,Hd hz⟩
   case rest=>
    obtain ⟨q5,q6,rfl,rfl,HX,H5,H6⟩:=hcut;have hX:=HW2.out.trans HX.out (by simp);have hK:=hX.heap HK.out (by simp);have k0:wc.cell? ⟨g,0,none⟩=some (.int .i64 c.params):=ab 0 hK;have k1:wc.cell? ⟨g,1,none⟩=some (.int .i64 c.locals):=ab 1 hK;have k2:wc.cell? ⟨g,2,none⟩=some (.slice a1 n1 c1):=ab 2 hK;have k3:wc.cell? ⟨g,3,none⟩=some (.slice (some ⟨gl,o,none⟩) n2 c2):=ab 3 hK;have hB:=HX.out.heap HB.out (by simp);have y2:wc.cell? ⟨gb,2,none⟩=some (.int .i64 l.fr):=ab 2 hB;have y3:wc.cell? ⟨gb,3,none⟩=some (.int .i64 l.lst):=ab 3 hB;have v0:wc.cell? ⟨q5,0,none⟩=some (.int .i64 1):=ab 0 H5.out;have v1:wc.cell? ⟨q5,1,none⟩=some (.int .i64 0):=ab 1 H5.out;have x0:wc.cell? ⟨q6,0,none⟩=some (.int .i64 3):=ab 0 H6.out;have x1:wc.cell? ⟨q6,1,none⟩=some (.int .i64 l.loc):=ab 1 H6.out;obtain ⟨gi,oi,rfl,zi⟩:=(HC.out.quiet hX).instrs_at (by omega);obtain ⟨f,hf⟩:∃ f:Nat,l.fr=((f+2:Nat):Int):=⟨(l.fr - 2).toNat,by omega⟩
    obtain ⟨t,ht⟩:∃ t:Nat,l.lst=(t:Int):=⟨l.lst.toNat,by omega⟩
    rw [hf,ht] at hbl;obtain ⟨a0,a1'⟩:=zi f (by omega);obtain ⟨b0',b1'⟩:=zi (f+1) (by omega);obtain ⟨d0,d1⟩:=zi t (by omega);have e1:c.ins.getD f (0,0)=jQ c (l.fr - 2):=by unfold jQ;rw [hf];congr 1;omega
    have e2:c.ins.getD (f+1) (0,0)=jQ c (l.fr - 1):=by unfold jQ;rw [hf];congr 1;omega
    have e3:c.ins.getD t (0,0)=jQ c l.lst:=by unfold jQ;rw [ht];congr 1
    rw [e1] at a0 a1';rw [e2] at b0' b1';rw [e3] at d0 d1
    have HH:=Hd (show jS c j l=(eqI (jQ c (l.fr - 2)) (1,0) && eqI (jQ c (l.fr - 1)) (3,l.loc) && eqI (jQ c l.lst) (14,(j:Int)) && !(((c.ins.take t).drop (f+2)).any fun i=>decide (i=(3,l.loc)))) by
     unfold jS;rw [mq,mq,mq,ht,hf]
     rfl)
    have KC:=fun W (hW:Only [] w1 W)=>mr ((HC.out.quiet hW).i.part (i:=f+2) (j:=t) (by omega) (by omega) (c1 - (f+2))) (by omega) (3,l.loc);have N1:=jW (jQ c (l.fr - 2)) (1,0);have N2:=jW (jQ c (l.fr - 1)) (3,l.loc);have N3:=jW (jQ c l.lst) (14,(j:Int));rw [hf] at y2;rw [ht] at y3;generalize jS c j l=E at HH HT2;generalize eqI (jQ c (l.fr - 2)) (1,0)=A at N1 HH;generalize eqI (jQ c (l.fr - 1)) (3,l.loc)=B at N2 HH;generalize eqI (jQ c l.lst) (14,(j:Int))=D at N3 HH;generalize jQ c (l.fr - 2)=I1 at *;generalize jQ c (l.fr - 1)=I2 at *;generalize jQ c l.lst=I3 at *;generalize ((c.ins.take t).drop (f+2)).any (fun i=>decide (i=(3,l.loc)))=M at KC HH;dsimp only at N1 N2 N3 KC;have HKC:=Hd KC;have HX2:=Hd hX;clear e1 e2 e3 hf ht zi hX hK hB KC HW2 HX HB H5 HW;have hs:A=false∨(A=true∧B=false)∨(A=true∧B=true∧D=false)∨(A=true∧B=true∧D=true):=by cases A<;>cases B<;>cases D<;>simp
    rcases hs with rfl | ⟨rfl,rfl⟩ | ⟨rfl,rfl,rfl⟩ | ⟨rfl,rfl,rfl⟩
    rotate_right
    ·go_wp2_with fail
     go_quiet (fail)
     (go_upto_region 7 with (fail));have oq:Only [] wc (wc.drewN nq):=bU (Only.refl _ _);generalize wc.drewN nq=wd at oq⊢;have oD:Only [] wc wd.drew:=oq.trans ((Only.refl [] wd).drew) (by simp);obtain ⟨F,hF⟩:∃ F,F=f+2:=⟨_,rfl⟩
     rw [← hF] at y2 HKC
     refine wp_region_held_drew (S:=fun w'=>w'.cell? ⟨g,2,none⟩=some (.slice (some ⟨gi,oi,none⟩) n1 c1)∧w'.cell? ⟨gb,2,none⟩=some (.int .i64 (F:Int))∧w'.cell? ⟨gb,3,none⟩=some (.int .i64 (t:Int))∧w'.cell? ⟨q6,0,none⟩=some (.int .i64 3)∧w'.cell? ⟨q6,1,none⟩=some (.int .i64 l.loc)) (by kernel_rfl)
      ⟨ac oD k2 (by simp),ac oD y2 (by simp),ac oD y3 (by simp),ac oD x0 (by simp),ac oD x1 (by simp)⟩ (fun hH=>?_)
     generalize wd.drew=we at oD hH⊢;replace HX2:=Hd (HX2.out.trans oD (by simp));clear oD oq k0 k1 k2 k3 y2 y3 v0 v1 x0 x1 a0 a1' b0' b1' d0 d1 N1 N2 N3;have hft:F≤t:=by omega
     have hcc:¬ c1=F:=by have:=HC.out.x1;omega
     have htc:t≤c1:=by have:=HC.out.x1;omega
     have HF:=Hd hF;clear hF hbl;refine tk 0 hH ?_;refine tk 1 hH ?_;refine tk 2 hH ?_;refine tk 3 hH ?_;refine tk 4 hH ?_;refine tk 5 hH ?_;refine tk 6 hH ?_;refine tk 7 hH ?_;refine tk 8 hH ?_;refine rd 9 (fun K hK=>?_);go_simp;refine (HKC.out we HX2.out).mono ?_;rintro e w4 ⟨rfl,o4⟩;refine hK.out _ _ ⟨ac o4 hH.1 (by simp),ac o4 hH.2.1 (by simp),ac o4 hH.2.2.1 (by simp),ac o4 hH.2.2.2.1 (by simp),ac o4 hH.2.2.2.2 (by simp)⟩ (fun hH=>?_);clear hK K;refine wpAnyH_done (by kernel_rfl) ?_ _;clear hH;replace HW:=Hd (HX2.out.trans o4 (by simp));cases M with
     | false=>
      (go_wp2_with fail);go_roundw
      case rel=>exact ⟨j+1,by omega,by simp,Hd (by rw [HT2.out,HH.out];rfl),HW⟩
      case measure=>simp [intOf];omega
     | true=>
      (go_wp2_with fail);go_ret;exact ⟨am (by rw [HT2.out,HH.out];rfl),HO.out.trans HW.out (by simp)⟩
    all_goals
     go_wp2_with fail
     go_quiet (fail)
     (go_wp2_with fail);go_ret;exact ⟨am (by rw [HT2.out,HH.out];rfl),HO.out.trans (HX2.out.trans (bU (S:=[]) (Only.refl _ _)) (by simp)) (by simp)⟩
  ·obtain rfl:j=n2:=by omega
   (go_wp2_with fail);go_ret;exact ⟨am (by rw [HT.out,List.drop_of_length_le (by rw [HN.out.2];exact Nat.le_refl _)];rfl),HO.out.trans HW.out (by simp)⟩
theorem qp {a:Int} {L:List Lp} {m:Nat} {l:Lp} {t:Int} (h:L[m]?=some l):dg a (L.drop m) t=dg a (L.drop (m+1)) (if inL a l=true then min (t*l.n) 65537 else t):=by
 obtain ⟨hlt,rfl⟩:=List.getElem?_eq_some_iff.1 h;rw [List.drop_eq_getElem_cons hlt];rfl
theorem tw {w:World} {c:Cd} {a1 a2:Option Addr} {n1 c1 n2 c2:Nat} (h:CV w c a1 n1 c1 a2 n2 c2) (hb:∀ l∈c.loops,1≤l.n∧l.n≤64):Calls Tryz.prog 50 #[.agg #[.int .i64 c.params,.int .i64 c.locals,.slice a1 n1 c1,.slice a2 n2 c2]] w fun e w'=>e=.returned (.int .i64 (iH c))∧Only [] w w':=by
 obtain ⟨R,hR⟩:∃ R,R=iH c:=⟨_,rfl⟩
 rw [← hR];have HR:=Hd (show R=qm c.loops (n1 - 0) 0 0 by rw [hR,h.e1];rfl);have HBB:=Hd hb;clear hR hb
 go_enter Tryz.func50,Tryz.ntmps50
 go_upto_region 1 with (fail)
 obtain ⟨w1,q9,o1,hK,-⟩:=nb w (.cells #[.int .i64 c.params,.int .i64 c.locals,.slice a1 n1 c1,.slice a2 n2 c2] 76);rw [← q9];clear q9;obtain ⟨g,hg⟩:∃ g,g=w.heap.size:=⟨_,rfl⟩
 rw [← hg] at hK⊢;have hgl:=ak hK;have HO:=Hd o1;have HK:=Hd hK;have HC:=Hd (h.quiet o1);have b1:=h.b1;have b2:=h.b2;have HN:=Hd (And.intro h.e1 h.e2);clear h o1 hK hg;have k0:w1.cell? ⟨g,0,none⟩=some (.int .i64 c.params):=ab 0 HK.out;have k1:w1.cell? ⟨g,1,none⟩=some (.int .i64 c.locals):=ab 1 HK.out;have k2:w1.cell? ⟨g,2,none⟩=some (.slice a1 n1 c1):=ab 2 HK.out;have k3:w1.cell? ⟨g,3,none⟩=some (.slice a2 n2 c2):=ab 3 HK.out;go_wp2_with fail
 go_loopw [3,12] (fun st ix wr=>∃ (j:Nat) (T:Int),j≤n1∧ix=.int .i64 (j:Int)∧st=.int .i64 T∧0≤T∧T≤65537*j∧Hid (R=qm c.loops (n1 - j) j T)∧Hid (Only [] w1 wr)) (fun _ ix _=>n1 - (intOf ix).toNat)
 case atStart=>exact ⟨0,0,Nat.zero_le _,rfl,rfl,by omega,by omega,HR,Hd (Only.refl _ _)⟩
 case round=>
  obtain ⟨j,T,hjn,rfl,rfl,hT0,hT1,HT,HW⟩:=hrel;clear HR k0 k1 k2 k3;have hK:=HW.out.heap HK.out (by simp);have k0:wr.cell? ⟨g,0,none⟩=some (.int .i64 c.params):=ab 0 hK;have k1:wr.cell? ⟨g,1,none⟩=some (.int .i64 c.locals):=ab 1 hK;have k2:wr.cell? ⟨g,2,none⟩=some (.slice a1 n1 c1):=ab 2 hK;have k3:wr.cell? ⟨g,3,none⟩=some (.slice a2 n2 c2):=ab 3 hK
  by_cases hlt:j < n1
  ·have hlt':(j:Int) < (n1:Int):=by omega
   have j0:(0:Int)≤(j:Int):=by omega
   have HT2:=Hd (show R=qm c.loops (n1 - (j+1)) (j+1) (T+dg j (c.loops.drop 0) 1) by
    rw [HT.out,show n1 - j=n1 - (j+1)+1 by omega];rfl)
   clear HT hK;go_wp2_with fail
   go_loopw [5,19] (fun st ix wq=>∃ (m:Nat) (t:Int),m≤n2∧ix=.int .i64 (m:Int)∧st=.int .i64 t∧1≤t∧t≤65537∧Hid (R=qm c.loops (n1 - (j+1)) (j+1) (T+dg j (c.loops.drop m) t))∧Hid (Only [] w1 wq)) (fun _ ix _=>n2 - (intOf ix).toNat)
   case atStart=>exact ⟨0,1,Nat.zero_le _,rfl,rfl,by omega,by omega,HT2,HW⟩
   case round=>
    obtain ⟨m,t,hmn,rfl,rfl,ht1,ht2,HU,HWq⟩:=hrel;clear HT2 HW
    by_cases hml:m < n2
    ·have hml':(m:Int) < (n2:Int):=by omega
     have m0:(0:Int)≤(m:Int):=by omega
     have hCV:=HC.out.quiet HWq.out;obtain ⟨l,gl,o,hl,rfl,z0,z1,z2,z3⟩:=hCV.loop hml;have hbl:=HBB.out l (List.mem_of_getElem? hl);have hU:=HU.out;rw [qp hl] at hU;have HU2:=Hd hU;have p1:1≤t*l.n:=by have:=Int.mul_le_mul ht1 hbl.1 (by omega) (by omega);omega
     have p2:t*l.n≤65537*64:=Int.mul_le_mul ht2 hbl.2 (by omega) (by omega);have p3:=Hd (fun h:65537 < t*l.n=>show min (t*l.n) 65537=65537 by omega);have p4:=Hd (fun h:¬ 65537 < t*l.n=>show min (t*l.n) 65537=t*l.n by omega);have KW:=dO (j:Int) l;clear hl hCV hU HU hbl k0 k1 k2 k3;(go_upto_region 9 with (fail));have HW:=HWq;obtain ⟨w2,q9,oB,hB,-⟩:=nb wr (.cells #[.int .i64 l.loc,.int .i64 l.n,.int .i64 l.fr,.int .i64 l.lst] 54);rw [← q9];clear q9;obtain ⟨gb,hgb⟩:∃ g,g=wr.heap.size:=⟨_,rfl⟩
     rw [← hgb] at hB⊢;have y0:w2.cell? ⟨gb,0,none⟩=some (.int .i64 l.loc):=ab 0 hB;have y1:w2.cell? ⟨gb,1,none⟩=some (.int .i64 l.n):=ab 1 hB;have y2:w2.cell? ⟨gb,2,none⟩=some (.int .i64 l.fr):=ab 2 hB;have y3:w2.cell? ⟨gb,3,none⟩=some (.int .i64 l.lst):=ab 3 hB;have HW2:=Hd (HW.out.trans oB (by simp));have HB:=Hd hB;clear oB hB hgb;clear z0 z1 z2 z3 HWq HW;generalize inL (j:Int) l=I at KW HU2;(go_wp2_with fail);refine (KW _).mono ?_;rintro e w3 ⟨rfl,o3⟩;have hB:=o3.heap HB.out (by simp);have HW3:=Hd (HW2.out.trans o3 (by simp));clear y0 y1 y2 y3 KW o3 HB HW2;have y1:w3.cell? ⟨gb,1,none⟩=some (.int .i64 l.n):=ab 1 hB;clear hB;cases I with
     | true=>
      by_cases h65:65537 < t*l.n
      ·have hm:=p3.out h65;have hU:=HU2.out;rw [if_pos rfl,hm] at hU;have HU3:=Hd hU;clear hU hm HU2;(go_wp2_with fail);go_roundw
       case rel=>exact ⟨m+1,65537,by omega,by simp,by simp,by omega,by omega,HU3,HW3⟩
       case measure=>simp [intOf];omega
      ·have hm:=p4.out (by omega);have hU:=HU2.out;rw [if_pos rfl,hm] at hU;have HU3:=Hd hU;clear hU hm HU2;(go_wp2_with fail);go_roundw
       case rel=>exact ⟨m+1,t*l.n,by omega,by simp,by simp,by omega,by omega,HU3,HW3⟩
       case measure=>simp [intOf];omega
     | false=>
      (go_wp2_with fail);go_roundw
      case rel=>exact ⟨m+1,t,by omega,by simp,by simp,by omega,by omega,HU2,HW3⟩
      case measure=>simp [intOf];omega
    ·obtain rfl:m=n2:=by omega
     have hU:=HU.out;rw [List.drop_of_length_le (by rw [HN.out.2];exact Nat.le_refl _)] at hU;have HU2:=Hd (show R=qm c.loops (n1 - (j+1)) (j+1) (T+t) from hU);clear hU;(go_wp2_with fail);go_roundw
     case rel=>exact ⟨j+1,T+t,by omega,by simp,by simp,by omega,by push_cast;omega,HU2,HWq⟩
     case measure=>simp [intOf];omega
  ·obtain rfl:j=n1:=by omega
   have hR:=HT.out;rw [Nat.sub_self] at hR;have HRT:=Hd (show R=T from hR);clear hR;(go_wp2_with fail);go_ret;exact ⟨by rw [HRT.out];rfl,HO.out.trans HW.out (by simp)⟩
theorem CV.loops_at {w:World} {c:Cd} {a1 a2:Option Addr} {n1 c1 n2 c2:Nat} (h:CV w c a1 n1 c1 a2 n2 c2) (hn:0 < n2):∃ g o,a2=some ⟨g,o,none⟩∧∀ (j:Nat) (l:Lp),c.loops[j]?=some l→w.cell? ⟨g,o+j*4,none⟩=some (.int .i64 l.loc)∧w.cell? ⟨g,o+j*4+1,none⟩=some (.int .i64 l.n)∧w.cell? ⟨g,o+j*4+2,none⟩=some (.int .i64 l.fr)∧w.cell? ⟨g,o+j*4+3,none⟩=some (.int .i64 l.lst):=by
 obtain ⟨i,g,o,-,rfl,-⟩:=h.loop hn;refine ⟨g,o,rfl,fun j l hj=>?_⟩;obtain ⟨g',o',e,z⟩:=h.l.at_ hj;injection e with e
 injection e with e1 e2 _
 subst e1 e2;exact ⟨z 0 _ rfl,z 1 _ rfl,z 2 _ rfl,z 3 _ rfl⟩
theorem tx {l:List Lp} {j:Nat} {x:Lp} (h:l[j]?=some x):fH (l.drop j)=((l.drop (j+1)).all (gC x) && fH (l.drop (j+1))):=by
 obtain ⟨hlt,rfl⟩:=List.getElem?_eq_some_iff.1 h;rw [List.drop_eq_getElem_cons hlt];rfl
theorem qq {w : World} {c : Cd} {a1 a2 : Option Addr} {n1 c1 n2 c2 : Nat} (h : CV w c a1 n1 c1 a2 n2 c2) (hb : ∀ l ∈ c.loops, 2 ≤ l.fr ∧ l.fr ≤ 65536) : Calls Tryz.prog 47 #[.agg #[.int .i64 c.params, .int .i64 c.locals, .slice a1 n1 c1, .slice a2 n2 c2]] w fun e w' => e = .returned (.bool (fH c.loops)) ∧ Only [] w w' := by
 obtain ⟨R, hR⟩ : ∃ R, R = fH c.loops := ⟨_, rfl⟩
 rw [← hR];have HR := Hd (show R = fH (c.loops.drop 0) from hR);have HBB := Hd hb;clear hR hb
 go_enter Tryz.func47, Tryz.ntmps47
 go_upto_region 1 with (fail)
 obtain ⟨w1, q9, o1, hK, -⟩ := nb w (.cells #[.int .i64 c.params, .int .i64 c.locals, .slice a1 n1 c1, .slice a2 n2 c2] 76);rw [← q9];clear q9;obtain ⟨g, hg⟩ : ∃ g, g = w.heap.size := ⟨_, rfl⟩
 rw [← hg] at hK ⊢;have hgl := ak hK;have HO := Hd o1;have HK := Hd hK;have HC := Hd (h.quiet o1);have b1 := h.b1;have b2 := h.b2;have HN := Hd (And.intro h.e1 h.e2);clear h o1 hK hg;have k0 : w1.cell? ⟨g, 0, none⟩ = some (.int .i64 c.params) := ab 0 HK.out;have k1 : w1.cell? ⟨g, 1, none⟩ = some (.int .i64 c.locals) := ab 1 HK.out;have k2 : w1.cell? ⟨g, 2, none⟩ = some (.slice a1 n1 c1) := ab 2 HK.out;have k3 : w1.cell? ⟨g, 3, none⟩ = some (.slice a2 n2 c2) := ab 3 HK.out;go_wp2_with fail
 go_loopw [12] (fun ix wr => ∃ j : Nat, j ≤ n2 ∧ ix = .int .i64 (j : Int) ∧ Hid (R = fH (c.loops.drop j)) ∧ Hid (Only [] w1 wr)) (fun ix _ => n2 - (intOf ix).toNat)
 case atStart => exact ⟨0, Nat.zero_le _, rfl, HR, Hd (Only.refl _ _)⟩
 case round =>
  obtain ⟨j, hjn, rfl, HT, HW⟩ := hrel;clear HR k0 k1 k2 k3;have hK := HW.out.heap HK.out (by simp);have k0 : wr.cell? ⟨g, 0, none⟩ = some (.int .i64 c.params) := ab 0 hK;have k1 : wr.cell? ⟨g, 1, none⟩ = some (.int .i64 c.locals) := ab 1 hK;have k2 : wr.cell? ⟨g, 2, none⟩ = some (.slice a1 n1 c1) := ab 2 hK;have k3 : wr.cell? ⟨g, 3, none⟩ = some (.slice a2 n2 c2) := ab 3 hK
  by_cases hlt : j < n2
  ·have hlt' : (j : Int) < (n2 : Int) := by omega
   have j0 : (0 : Int) ≤ (j : Int) := by omega
   obtain ⟨gl, o, rfl, zl⟩ := HC.out.loops_at (by omega);obtain ⟨l, hl⟩ : ∃ l, c.loops[j]? = some l := ⟨_, List.getElem?_eq_getElem (by rw [← HN.out.2]; exact hlt)⟩
   obtain ⟨z0, z1, z2, z3⟩ := zl j l hl;have z0 := ac HW.out z0 (by simp);have z1 := ac HW.out z1 (by simp);have z2 := ac HW.out z2 (by simp);have z3 := ac HW.out z3 (by simp);have hbl := HBB.out l (List.mem_of_getElem? hl);have HT2 := Hd (HT.out.trans (tx hl));have HZ := Hd zl;clear hl hK HT;clear zl;(go_upto_region 4 with (fail));obtain ⟨w2, q9, oB, hB, -⟩ := nb wr (.cells #[.int .i64 l.loc, .int .i64 l.n, .int .i64 l.fr, .int .i64 l.lst] 54);rw [← q9];clear q9;obtain ⟨gb, hgb⟩ : ∃ g, g = wr.heap.size := ⟨_, rfl⟩
   rw [← hgb] at hB ⊢;have y0 : w2.cell? ⟨gb, 0, none⟩ = some (.int .i64 l.loc) := ab 0 hB;have y1 : w2.cell? ⟨gb, 1, none⟩ = some (.int .i64 l.n) := ab 1 hB;have y2 : w2.cell? ⟨gb, 2, none⟩ = some (.int .i64 l.fr) := ab 2 hB;have y3 : w2.cell? ⟨gb, 3, none⟩ = some (.int .i64 l.lst) := ab 3 hB;have HW2 := Hd (HW.out.trans oB (by simp));have HB := Hd hB;clear oB hB hgb;clear k0 k1 k2 k3 z0 z1 z2 z3;have k3 : w2.cell? ⟨g, 3, none⟩ = some (.slice (some ⟨gl, o, none⟩) n2 c2) := ab 3 (HW2.out.heap HK.out (by simp));have hx2 : n2 ≤ c2 := HC.out.x2;have q1 : ((j : Int) + 1).toNat = j + 1 := by omega
   have q2 : (0 : Int) ≤ (j : Int) + 1 := by omega
   have q3 : (j : Int) + 1 ≤ (n2 : Int) := by omega
   by_cases hla : j + 1 = n2
   ·have q4 : n2 - (j + 1) = 0 := by omega
    have hD := HT2.out;rw [List.drop_of_length_le (by rw [← HN.out.2]; omega)] at hD;have HT3 := Hd (show R = fH (c.loops.drop (j + 1)) by rw [List.drop_of_length_le (by rw [← HN.out.2]; omega), hD]; rfl);clear hD HT2 y0 y1 y2 y3
    by_cases hq : c2 = j + 1
    all_goals
     go_upto_region 5 with (fail)
     go_loopw [24] (fun ix wr => ix = .int .i64 0 ∧ Hid (Only [] w1 wr)) (fun _ _ => 0)
     case atStart => exact ⟨rfl, HW2⟩
     case round =>
      obtain ⟨rfl, HW⟩ := hrel;(go_wp2_with fail);go_roundw
      ·exact ⟨j + 1, by omega, by simp, HT3, HW⟩
      ·simp [intOf]; omega
   ·have hq : ¬ c2 = j + 1 := by omega
    have q4 : ((n2 - (j + 1) : Nat) : Int) = (n2 : Int) - (j + 1) := by omega
    obtain ⟨M, hM⟩ : ∃ M, M = n2 - (j + 1) := ⟨_, rfl⟩
    obtain ⟨O, hO⟩ : ∃ O, O = o + (j + 1) * 4 := ⟨_, rfl⟩
    clear y0 y1 y2 y3;(go_upto_region 5 with (fail));rw [← hM, ← hO, show (n2 : Int) - ((j : Int) + 1) = (M : Int) by omega];have hMb : M ≤ 65536 := by omega
    have HM := Hd (And.intro hM hO);clear q1 q2 q3 q4 hM hO k3;have HT3 := Hd (show R = (((c.loops.drop (j + 1)).drop 0).all (gC l) && fH (c.loops.drop (j + 1))) from HT2.out);clear HT2
    go_loopw [24] (fun ix wr => ∃ m : Nat, m ≤ M ∧ ix = .int .i64 (m : Int) ∧ Hid (R = (((c.loops.drop (j + 1)).drop m).all (gC l) && fH (c.loops.drop (j + 1)))) ∧ Hid (Only [] w2 wr)) (fun ix _ => M - (intOf ix).toNat)
    case atStart => exact ⟨0, Nat.zero_le _, rfl, HT3, Hd (Only.refl _ _)⟩
    case round =>
     obtain ⟨m, hmn, rfl, HT, HWq⟩ := hrel;clear HT3
     by_cases hml : m < M
     ·have hml' : (m : Int) < (M : Int) := by omega
      have m0 : (0 : Int) ≤ (m : Int) := by omega
      obtain ⟨b, hb⟩ : ∃ b, c.loops[j + 1 + m]? = some b := ⟨_, List.getElem?_eq_getElem (by rw [← HN.out.2]; have := HM.out.1; omega)⟩
      have ew : Only [] w1 wr := HW2.out.trans HWq.out (by simp);obtain ⟨v0, v1, v2, v3⟩ := HZ.out (j + 1 + m) b hb;rw [show o + (j + 1 + m) * 4 = O + m * 4 by rw [HM.out.2]; omega] at v0 v1 v2 v3;have v0 := ac ew v0 (by simp);have v1 := ac ew v1 (by simp);have v2 := ac ew v2 (by simp);have v3 := ac ew v3 (by simp);have hbb := HBB.out b (List.mem_of_getElem? hb);have hT := HT.out;rw [mp (x := b) (by rw [List.getElem?_drop]; exact hb)] at hT;have HT2 := Hd hT;clear hb hT HT ew;(go_upto_region 7 with (fail));obtain ⟨w3, q9, oB, hB, -⟩ := nb wr (.cells #[.int .i64 b.loc, .int .i64 b.n, .int .i64 b.fr, .int .i64 b.lst] 54);rw [← q9];clear q9;obtain ⟨gc, hgc⟩ : ∃ g, g = wr.heap.size := ⟨_, rfl⟩
      rw [← hgc] at hB ⊢;have o3 := HWq.out.trans oB (by simp);have hA := o3.heap HB.out (by simp);have y0 : w3.cell? ⟨gb, 0, none⟩ = some (.int .i64 l.loc) := ab 0 hA;have y1 : w3.cell? ⟨gb, 1, none⟩ = some (.int .i64 l.n) := ab 1 hA;have y2 : w3.cell? ⟨gb, 2, none⟩ = some (.int .i64 l.fr) := ab 2 hA;have y3 : w3.cell? ⟨gb, 3, none⟩ = some (.int .i64 l.lst) := ab 3 hA;have x0 : w3.cell? ⟨gc, 0, none⟩ = some (.int .i64 b.loc) := ab 0 hB;have x1 : w3.cell? ⟨gc, 1, none⟩ = some (.int .i64 b.n) := ab 1 hB;have x2 : w3.cell? ⟨gc, 2, none⟩ = some (.int .i64 b.fr) := ab 2 hB;have x3 : w3.cell? ⟨gc, 3, none⟩ = some (.int .i64 b.lst) := ab 3 hB;have HO3 := Hd o3;have HC3 := Hd hB;have K1 := Hd (fun w => iI l b w (by omega) (by omega));have K2 := Hd (fun w => iI b l w (by omega) (by omega));have HP := Hd (show gC l b = (decide (l.lst < b.fr - 2) || decide (b.lst < l.fr - 2) || stIn l b || stIn b l) from rfl);generalize gC l b = P at HP HT2;generalize stIn l b = S1 at K1 HP;generalize stIn b l = S2 at K2 HP;clear v0 v1 v2 v3 oB hB o3 hA hgc HWq;have hs : l.lst < b.fr - 2 ∨ (¬ l.lst < b.fr - 2 ∧ b.lst < l.fr - 2) ∨ (¬ l.lst < b.fr - 2 ∧ ¬ b.lst < l.fr - 2) := by omega
      rcases hs with h1 | ⟨h1, h2⟩ | ⟨h1, h2⟩
      iterate 2
       ·have HPT := Hd (show P = true by rw [HP.out]; simp [h1, *]);(go_wp2_with fail);go_roundw
        ·exact ⟨m + 1, by omega, by simp, Hd (by rw [HT2.out, HPT.out, List.drop_drop]; rfl), HO3⟩
        ·simp [intOf]; omega
      ·have HPS := Hd (show P = (S1 || S2) by rw [HP.out, decide_eq_false h1, decide_eq_false h2]; rfl);clear HP;(go_wp2_with fail);refine (K1.out _).mono ?_;rintro e w4 ⟨rfl, o4⟩;have hA := o4.heap HC3.out (by simp);have hL := (HO3.out.trans o4 (by simp)).heap HB.out (by simp);have y0 : w4.cell? ⟨gb, 0, none⟩ = some (.int .i64 l.loc) := ab 0 hL;have y1 : w4.cell? ⟨gb, 1, none⟩ = some (.int .i64 l.n) := ab 1 hL;have y2 : w4.cell? ⟨gb, 2, none⟩ = some (.int .i64 l.fr) := ab 2 hL;have y3 : w4.cell? ⟨gb, 3, none⟩ = some (.int .i64 l.lst) := ab 3 hL;have x0 : w4.cell? ⟨gc, 0, none⟩ = some (.int .i64 b.loc) := ab 0 hA;have x1 : w4.cell? ⟨gc, 1, none⟩ = some (.int .i64 b.n) := ab 1 hA;have x2 : w4.cell? ⟨gc, 2, none⟩ = some (.int .i64 b.fr) := ab 2 hA;have x3 : w4.cell? ⟨gc, 3, none⟩ = some (.int .i64 b.lst) := ab 3 hA;have HO4 := Hd (HO3.out.trans o4 (by simp));clear hA hL o4;cases S1 with
       | true =>
        (go_wp2_with fail);go_roundw
        ·exact ⟨m + 1, by omega, by simp, Hd (by rw [HT2.out, HPS.out, List.drop_drop]; rfl), HO4⟩
        ·simp [intOf]; omega
       | false =>
        (go_wp2_with fail);refine (K2.out _).mono ?_;rintro e w5 ⟨rfl, o5⟩;cases S2 with
        | true =>
         (go_wp2_with fail);go_roundw
         ·exact ⟨m + 1, by omega, by simp, Hd (by rw [HT2.out, HPS.out, List.drop_drop]; rfl), Hd (HO4.out.trans o5 (by simp))⟩
         ·simp [intOf]; omega
        | false =>
         (go_wp2_with fail);go_ret;exact ⟨am (by rw [HT2.out, HPS.out]; rfl), HO.out.trans (HW2.out.trans (HO4.out.trans o5 (by simp)) (by simp)) (by simp)⟩
     ·obtain rfl : m = M := by omega
      have hT := HT.out;rw [List.drop_of_length_le (by rw [List.length_drop, ← HN.out.2]; have := HM.out.1; omega)] at hT;have HT3 := Hd (show R = fH (c.loops.drop (j + 1)) from hT);clear hT;(go_wp2_with fail);go_roundw
      ·exact ⟨j + 1, by omega, by simp, HT3, Hd (HW2.out.trans HWq.out (by simp))⟩
      ·simp [intOf]; omega
  ·obtain rfl : j = n2 := by omega
   (go_wp2_with fail);go_ret;exact ⟨am (by rw [HT.out, List.drop_of_length_le (by rw [HN.out.2]; exact Nat.le_refl _)]; rfl), HO.out.trans HW.out (by simp)⟩
def jmpL (k n:Int) (l:Lp):Bool:=(inL k l == inL n l) && (inL k l || !decide (n=l.fr - 1))
theorem wJ {c:Cd} {k:Nat} {i:Ins} (h:i.1=12∨i.1=13):iT c k i=c.loops.all (jmpL k i.2):=by unfold iT;rw [if_pos h];rfl
theorem jmpOk_no {c:Cd} {k:Nat} {i:Ins} (h1:i.1≠12) (h2:i.1≠13):iT c k i=true:=by unfold iT;rw [if_neg (by omega)]
theorem tz {w:World} {c:Cd} {a1 a2:Option Addr} {n1 c1 n2 c2:Nat} (h:CV w c a1 n1 c1 a2 n2 c2) (hb:∀ l∈c.loops,2≤l.fr∧l.fr≤65536):Calls Tryz.prog 48 #[.agg #[.int .i64 c.params,.int .i64 c.locals,.slice a1 n1 c1,.slice a2 n2 c2]] w fun e w'=>e=.returned (.bool (rD c))∧Only [] w w':=by
 obtain ⟨R,hR⟩:∃ R,R=rD c:=⟨_,rfl⟩
 rw [← hR];have HR:=Hd (show R=mF (iT c) (c.ins.drop 0) 0 from hR);have HBB:=Hd hb;clear hR hb
 go_enter Tryz.func48,Tryz.ntmps48
 go_upto_region 1 with (fail)
 obtain ⟨w1,q9,o1,hK,-⟩:=nb w (.cells #[.int .i64 c.params,.int .i64 c.locals,.slice a1 n1 c1,.slice a2 n2 c2] 76);rw [← q9];clear q9;obtain ⟨g,hg⟩:∃ g,g=w.heap.size:=⟨_,rfl⟩
 rw [← hg] at hK⊢;have hgl:=ak hK;have HO:=Hd o1;have HK:=Hd hK;have HC:=Hd (h.quiet o1);have b1:=h.b1;have b2:=h.b2;have HN:=Hd (And.intro h.e1 h.e2);clear h o1 hK hg;have k0:w1.cell? ⟨g,0,none⟩=some (.int .i64 c.params):=ab 0 HK.out;have k1:w1.cell? ⟨g,1,none⟩=some (.int .i64 c.locals):=ab 1 HK.out;have k2:w1.cell? ⟨g,2,none⟩=some (.slice a1 n1 c1):=ab 2 HK.out;have k3:w1.cell? ⟨g,3,none⟩=some (.slice a2 n2 c2):=ab 3 HK.out;go_wp2_with fail
 go_loopw [12] (fun ix wr=>∃ j:Nat,j≤n1∧ix=.int .i64 (j:Int)∧Hid (R=mF (iT c) (c.ins.drop j) j)∧Hid (Only [] w1 wr)) (fun ix _=>n1 - (intOf ix).toNat)
 case atStart=>exact ⟨0,Nat.zero_le _,rfl,HR,Hd (Only.refl _ _)⟩
 case round=>
  obtain ⟨j,hjn,rfl,HT,HW⟩:=hrel;clear HR k0 k1 k2 k3
  by_cases hlt:j < n1
  ·have hlt':(j:Int) < (n1:Int):=by omega
   have j0:(0:Int)≤(j:Int):=by omega
   obtain ⟨i,gl,o,hl,rfl,z0,z1⟩:=(HC.out.quiet HW.out).instr hlt;have HT2:=Hd (HT.out.trans (jX hl));clear hl HT;(go_upto_region 4 with (fail));obtain ⟨w2,q9,oB,hB,-⟩:=nb wr (.cells #[.int .i64 i.1,.int .i64 i.2] 52);rw [← q9];clear q9;obtain ⟨gb,hgb⟩:∃ g,g=wr.heap.size:=⟨_,rfl⟩
   rw [← hgb] at hB⊢;have y0:w2.cell? ⟨gb,0,none⟩=some (.int .i64 i.1):=ab 0 hB;have y1:w2.cell? ⟨gb,1,none⟩=some (.int .i64 i.2):=ab 1 hB;have HW2:=Hd (HW.out.trans oB (by simp));have HB:=Hd hB;clear oB hB hgb;clear z0 z1
   by_cases hj:i.1=12∨i.1=13
   ·have hT:=HT2.out;rw [wJ hj] at hT;have HT3:=Hd (show R=((c.loops.drop 0).all (jmpL j i.2) && mF (iT c) (c.ins.drop (j+1)) (j+1)) from hT);have k3:w2.cell? ⟨g,3,none⟩=some (.slice a2 n2 c2):=ab 3 (HW2.out.heap HK.out (by simp));have e2:∀ W,(binOp .neq 4 (.bool true) (.bool true)).run Tryz.prog W=.ok (.bool false) W:=fun W=>by kernel_rfl
    clear hT HT2;rcases hj with hj | hj
    all_goals
     rw [hj] at y0;clear hj;go_wp2_with fail
     go_loopw [29] (fun ix wr=>∃ m:Nat,m≤n2∧ix=.int .i64 (m:Int)∧Hid (R=((c.loops.drop m).all (jmpL j i.2) && mF (iT c) (c.ins.drop (j+1)) (j+1)))∧Hid (Only [] w2 wr)) (fun ix _=>n2 - (intOf ix).toNat)
     case atStart=>exact ⟨0,Nat.zero_le _,rfl,HT3,Hd (Only.refl _ _)⟩
     case round=>
      obtain ⟨m,hmn,rfl,HT,HWq⟩:=hrel;clear HT3 y0 y1 k3
      by_cases hml:m < n2
      ·have hml':(m:Int) < (n2:Int):=by omega
       have m0:(0:Int)≤(m:Int):=by omega
       obtain ⟨l,gk,q,hl,rfl,z0,z1,z2,z3⟩:=(HC.out.quiet (HW2.out.trans HWq.out (by simp))).loop hml;have hbl:=HBB.out l (List.mem_of_getElem? hl);have HT2:=Hd (by have:=HT.out;rw [mp hl] at this;exact this);clear hl HT;(go_upto_region 8 with (fail));obtain ⟨w3,q9,oB,hB,-⟩:=nb wr (.cells #[.int .i64 l.loc,.int .i64 l.n,.int .i64 l.fr,.int .i64 l.lst] 54);rw [← q9];clear q9;obtain ⟨gc,hgc⟩:∃ g,g=wr.heap.size:=⟨_,rfl⟩
       rw [← hgc] at hB⊢;have o3:=HWq.out.trans oB (by simp);have hA:=o3.heap HB.out (by simp);have y1:w3.cell? ⟨gb,1,none⟩=some (.int .i64 i.2):=ab 1 hA;have x0:w3.cell? ⟨gc,0,none⟩=some (.int .i64 l.loc):=ab 0 hB;have x1:w3.cell? ⟨gc,1,none⟩=some (.int .i64 l.n):=ab 1 hB;have x2:w3.cell? ⟨gc,2,none⟩=some (.int .i64 l.fr):=ab 2 hB;have x3:w3.cell? ⟨gc,3,none⟩=some (.int .i64 l.lst):=ab 3 hB;have HO3:=Hd o3;have HC3:=Hd hB;have K1:=Hd (fun w=>dO (j:Int) l w);have K2:=Hd (fun w=>dO i.2 l w);have HP:=Hd (show jmpL j i.2 l=((inL j l == inL i.2 l) && (inL j l || !decide (i.2=l.fr - 1))) from rfl);generalize jmpL j i.2 l=P at HP HT2;generalize inL (j:Int) l=S1 at K1 HP;generalize inL i.2 l=S2 at K2 HP;clear z0 z1 z2 z3 oB hB o3 hA hgc HWq;(go_wp2_with fail);refine (K1.out _).mono ?_;rintro e w4 ⟨rfl,o4⟩;have hA:=o4.heap HC3.out (by simp);have hL:=(HO3.out.trans o4 (by simp)).heap HB.out (by simp);have y1:w4.cell? ⟨gb,1,none⟩=some (.int .i64 i.2):=ab 1 hL;have x0:w4.cell? ⟨gc,0,none⟩=some (.int .i64 l.loc):=ab 0 hA;have x1:w4.cell? ⟨gc,1,none⟩=some (.int .i64 l.n):=ab 1 hA;have x2:w4.cell? ⟨gc,2,none⟩=some (.int .i64 l.fr):=ab 2 hA;have x3:w4.cell? ⟨gc,3,none⟩=some (.int .i64 l.lst):=ab 3 hA;have HO4:=Hd (HO3.out.trans o4 (by simp));have HC4:=Hd hA;clear hA hL o4;(go_wp2_with fail);refine (K2.out _).mono ?_;rintro e w5 ⟨rfl,o5⟩;have y1:w5.cell? ⟨gb,1,none⟩=some (.int .i64 i.2):=ab 1 ((HO4.out.trans o5 (by simp)).heap HB.out (by simp));have x2:w5.cell? ⟨gc,2,none⟩=some (.int .i64 l.fr):=ab 2 (o5.heap HC4.out (by simp));have HO5:=Hd (HO4.out.trans o5 (by simp));clear o5 x0 x1 x3;have hs:(S1=!S2)∨(S1=true∧S2=true)∨(S1=false∧S2=false∧¬ i.2=l.fr - 1)∨(S1=false∧S2=false∧i.2=l.fr - 1):=by cases S1<;>cases S2<;>simp<;>omega
       rcases hs with rfl | ⟨rfl,rfl⟩ | ⟨rfl,rfl,h1⟩ | ⟨rfl,rfl,h1⟩
       ·cases S2
        all_goals
         (go_wp2_with fail);go_ret;exact ⟨am (by rw [HT2.out,HP.out];rfl),HO.out.trans (HW2.out.trans HO5.out (by simp)) (by simp)⟩
       iterate 2
        ·have HPT:=Hd (show P=true by rw [HP.out];simp<;>omega);(go_wp2_with fail);go_roundw
         ·exact ⟨m+1,by omega,by simp,Hd (by rw [HT2.out,HPT.out];rfl),HO5⟩
         ·simp [intOf];omega
       ·have HPT:=Hd (show P=false by rw [HP.out];simp<;>omega);(go_wp2_with fail);go_ret;exact ⟨am (by rw [HT2.out,HPT.out];rfl),HO.out.trans (HW2.out.trans HO5.out (by simp)) (by simp)⟩
      ·obtain rfl:m=n2:=by omega
       have hT:=HT.out;rw [List.drop_of_length_le (by rw [← HN.out.2];exact Nat.le_refl _)] at hT;have HT3:=Hd (show R=mF (iT c) (c.ins.drop (j+1)) (j+1) from hT);clear hT;(go_wp2_with fail);go_roundw
       ·exact ⟨j+1,by omega,by simp,HT3,Hd (HW2.out.trans HWq.out (by simp))⟩
       ·simp [intOf];omega
   ·have n12:¬ i.1=12:=fun e=>hj (.inl e);have n13:¬ i.1=13:=fun e=>hj (.inr e);have e12:(i.1 != 12)=true:=by simpa using n12
    have e13:(i.1 != 13)=true:=by simpa using n13
    have hT:=HT2.out;rw [jmpOk_no n12 n13] at hT;have HT3:=Hd (show R=mF (iT c) (c.ins.drop (j+1)) (j+1) from hT);clear hT HT2 hj;(go_wp2_with fail);go_roundw
    ·exact ⟨j+1,by omega,by simp,HT3,HW2⟩
    ·simp [intOf];omega
  ·obtain rfl:j=n1:=by omega
   (go_wp2_with fail);go_ret;exact ⟨am (by rw [HT.out,List.drop_of_length_le (by rw [HN.out.1];exact Nat.le_refl _)];rfl),HO.out.trans HW.out (by simp)⟩
end Go.Proofs.YtcebchffcmpfeaaGreat
