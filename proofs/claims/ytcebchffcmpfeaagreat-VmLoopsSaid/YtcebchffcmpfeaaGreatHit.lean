import Derived.Test.YtcebchffcmpfeaaGreatHet
namespace Go.Proofs.YtcebchffcmpfeaaGreat
set_option linter.unusedVariables false
set_option linter.unusedSimpArgs false
set_option maxRecDepth 100000
set_option maxHeartbeats 16000000
open Go.RowKit Go.Maps
def loH (F:Nv) (k:Int) (nm:Sec) (n:Int):List Ins:=if k=8 then [(1,0),(3,F.c8 nm),(1,n - 1),(2,F.c8 nm),(9,2),(3,F.lc nm)] else [(1,0),(3,F.c8 nm)]
def loC (F:Nv) (k:Int) (nm:Sec) (n:Int) (bd:List St) (h:Nat) (lp:List Lp):List Ins×List Lp:=
 let b:=cB F bd (h+(loH F k nm n).length) lp
 (loH F k nm n++b.1++[(14,(b.2.length:Int))],b.2++[⟨F.c8 nm,n,((h+2:Nat):Int),((h+((loH F k nm n).length+b.1.length):Nat):Int)⟩])
def loS (F:Nv) (k:Int) (nm:Sec) (n:Int) (bd:List St) (h:Nat) (lp:List Lp):List Ins×List Lp:=if n=0 then ([],lp) else loC F k nm n bd h lp
theorem MK.v_shape {w:World} {base g:Nat} {s:MS} {r:List Ins×List Lp} {v u:Value} {bl bc:Nat} (h:MK w base g (MSb s r) v u bl bc) {n:Nat} (hn:n=s.ins.length+r.1.length):∃ a c,v=.slice a n c:=by
 obtain ⟨a,c,rfl⟩:=h.ins.shape;exact ⟨a,c,by rw [cA,← hn]⟩
theorem MK.u_shape {w:World} {base g:Nat} {s:MS} {r:List Ins×List Lp} {v u:Value} {bl bc:Nat} (h:MK w base g (MSb s r) v u bl bc) {n:Nat} (hn:n=r.2.length):∃ a c,u=.slice a n c:=by
 obtain ⟨a,c,rfl⟩:=h.lps.shape;exact ⟨a,c,by rw [hn];rfl⟩
theorem kn (W:World) (g:Nat) (v0 v1 v2 v3:Value):Only [g] W ((((W.setCell ⟨g,0,none⟩ v0).setCell ⟨g,1,none⟩ v1).setCell ⟨g,2,none⟩ v2).setCell ⟨g,3,none⟩ v3):=oc
theorem Bx.cell {w:World} {g:Nat} {v u:Value} {k:Nat} {cs:Array Value} {t:TypeId} (h:Bx w g v u k (.cells cs t (0,0))) (i:Nat) (z:Value):Bx (w.setCell ⟨k,i,none⟩ z) g v u k (.cells (cs.setIfInBounds i z) t (0,0)):=
 ⟨af z h.heap,h.ng,h.nv,h.nu⟩
theorem b9 (w:World) (k i:Nat) (z:Value):Only [k] w (w.setCell ⟨k,i,none⟩ z):=oc
theorem loop_any {N:Nat} (IB:BG N) {w:World} {base g:Nat} {s:MS} {v u:Value} {bl bc:Nat} {k:Int} {nm:Sec} {ys:List E} {nn:Int} {bd els:List St} {p:Int} {cs:List Value} {B:Nat→Prop} (h:MK w base g s v u bl bc) (hb:base≤w.heap.size)
  (h1:ah bd≤N) (hf:s.ins.length+10*(1+ah bd)≤200000) (hl:s.lps.length+(1+ah bd)≤200000) (hw1:wB bd) (hg1:gB bd) (hf1:kR bd) (hk:k=7∨k=8) (hnn:0≤nn∧nn≤64) (hnm:nm.length≤65536)
  (hev:SV w B (.mk k nm ys nn bd els p) cs) (hB:∀ b,B b→b < base) :
  Calls Tryz.prog 70 #[.pointer (some ⟨g,0,none⟩),.agg cs.toArray] w fun en w'=>en=.returned (.tuple #[])∧∃ v' u',MK w' base g (MSb s (loS s.nv k nm nn bd s.ins.length s.lps)) v' u' bl bc∧MTo w g v u w' v' u':=by
 unfold SV at hev;obtain ⟨va,a1,c1,a2,c2,rfl,⟨a0,c0,rfl,-⟩,hbd,-⟩:=hev;have hvb:SsV w B (.slice a1 bd.length c1) bd:=⟨a1,c1,rfl,hbd⟩
 obtain ⟨sn,hsn⟩:∃ sn,sn=aj nm:=⟨_,rfl⟩
 obtain ⟨L0,hL0⟩:∃ L,L=ys.length:=⟨_,rfl⟩
 obtain ⟨L1,hL1⟩:∃ L,L=bd.length:=⟨_,rfl⟩
 obtain ⟨L2,hL2⟩:∃ L,L=els.length:=⟨_,rfl⟩
 obtain ⟨R,hR⟩:∃ R,R=MSb s (loS s.nv k nm nn bd s.ins.length s.lps):=⟨_,rfl⟩
 obtain ⟨X,hX⟩:∃ X,X=s.nv.c8 nm:=⟨_,rfl⟩
 obtain ⟨Y,hY⟩:∃ X,X=s.nv.lc nm:=⟨_,rfl⟩
 rw [← hL1] at hvb;rw [← hsn,← hL0,← hL1,← hL2,← hR];have HR:=Hd hR;have HSN:=Hd hsn;have HXX:=Hd hX;have HYY:=Hd hY;have oA:Only [] w (w.alloc (.cells #[.int .i64 k,.string sn,.slice a0 L0 c0,.int .i64 nn,.slice a1 L1 c1,.slice a2 L2 c2,.int .i64 p] 113)):=(Only.refl _ _).alloc _;have hbx:=Bx.new h (.cells #[.int .i64 k,.string sn,.slice a0 L0 c0,.int .i64 nn,.slice a1 L1 c1,.slice a2 L2 c2,.int .i64 p] 113);obtain ⟨gb,hgb⟩:∃ g,g=w.heap.size:=⟨_,rfl⟩
 rw [← hgb] at hbx;obtain ⟨w1,hw1'⟩:∃ w1,w1=w.alloc (.cells #[.int .i64 k,.string sn,.slice a0 L0 c0,.int .i64 nn,.slice a1 L1 c1,.slice a2 L2 c2,.int .i64 p] 113):=⟨_,rfl⟩
 rw [← hw1'] at oA hbx;have HW1:=Hd hw1';have HGB:=Hd hgb;have HO:=Hd oA;have HM1:=Hd (h.quiet oA);have HB1:=Hd (show base≤w1.heap.size by have:=oA.size;omega);have HBX:=Hd hbx;have HLN:=Hd (And.intro hf hl);have HVB:=Hd (hvb.quiet oA);have HWS:=Hd (And.intro hw1 (And.intro hg1 hf1));have HB:=Hd hB;have hks:=MTo.keeps (w':=w) (v':=v) (u':=u) (h.quiet oA) hB;have HKS:=Hd hks;have hlc:∀ w',Only [] w1 w'→(Instr.lookup 90 (.map (some bc)) (.string sn) false).run Tryz.prog w'=.ok (.int .i64 X) w':=fun w' o=>by
  obtain ⟨n0,-,hm⟩:=HM1.out.cmap;have:=(hm.kept o (by simp)).look1 Tryz.underlying90 Tryz.underlying3 cC hnm;rw [← HSN.out] at this;rw [HXX.out];exact this
 have HLC:=Hd hlc;have HNM:=Hd hnm;have x1:w1.cell? ⟨gb,1,none⟩=some (.string sn):=ab 1 hbx.heap;have x3:w1.cell? ⟨gb,3,none⟩=some (.int .i64 nn):=ab 3 hbx.heap;obtain ⟨n0,n64⟩:=hnn;clear h hb hf hl hw1 hg1 hf1 hbd hvb hsn hL0 hL1 hL2 hR oA hbx hw1' hgb hB hks hlc hX hY hnm
 go_enter Tryz.func70,Tryz.ntmps70
 go_upto_region 1 with (fail)
 rw [← HGB.out,← HW1.out]
 by_cases hn0:nn=0
 ·subst hn0;go_wp2_with fail
  first | go_end0 | ((try simp only [Exit.inBlock,Exit.then]);refine bodyPost_ret (results_none rfl _ _ _) rfl ?_)
  refine ⟨rfl,v,u,?_,MTo.before HO.out (MTo.refl _ _ _ _)⟩;rw [HR.out];unfold loS;rw [if_pos rfl,ou];exact HM1.out
 ·have hnb:(nn == 0)=false:=by simpa using hn0
  go_upto_region 2 with (fail)
  have oD:Only [] w1 w1.drew:=(Only.refl [] w1).drew;have hlk0:=HLC.out _ oD;refine wp_region_held_drew (S:=fun w'=>w'.cell? ⟨g,5,none⟩=some (.map (some bc))∧w'.cell? ⟨gb,1,none⟩=some (.string sn)∧w'.cell? ⟨gb,3,none⟩=some (.int .i64 nn)∧(Instr.lookup 90 (.map (some bc)) (.string sn) false).run Tryz.prog w'=.ok (.int .i64 X) w') (by kernel_rfl) ⟨(HM1.out.quiet oD).c5,ac oD x1 (by simp),ac oD x3 (by simp),hlk0⟩ (fun hH=>?_);have HOD:=Hd oD;clear oD x1 x3 hlk0;have HMD:=Hd (HM1.out.quiet HOD.out);have HBD:=Hd (HBX.out.quiet HOD.out);generalize w1.drew=wd at HOD HMD HBD hH⊢;refine tk 0 hH ?_;refine tk 1 hH ?_;refine tk 2 hH ?_;refine tk 3 hH ?_;refine tk 4 hH ?_;refine tk 5 hH ?_;refine tk 6 hH ?_;refine tk 7 hH ?_;refine tk 8 hH ?_;refine tk 9 hH ?_;refine rd 10 (fun K hK=>?_);go_simp;have oE:Only [] wd (wd.alloc (.cells #[.int .i64 0,.int .i64 0,.int .i64 0,.int .i64 0] 54)):=(Only.refl _ _).alloc _;have hle:=Bx.new HMD.out (.cells #[.int .i64 0,.int .i64 0,.int .i64 0,.int .i64 0] 54);obtain ⟨gl,hgl⟩:∃ g,g=wd.heap.size:=⟨_,rfl⟩
  have hbl:gb≠gl:=by have:=HBD.out.lt;omega
  have hlw:w1.heap.size≤gl:=by have:=HOD.out.size;omega
  rw [← hgl] at hle⊢;clear hgl;refine hK.out _ _ ⟨(HMD.out.quiet oE).c5,ac oE hH.2.1 (by simp),ac oE hH.2.2.1 (by simp),HLC.out _ (HOD.out.trans oE (by simp))⟩ (fun hH=>?_);clear hK K;replace HOD:=Hd (HOD.out.trans oE (by simp));replace HMD:=Hd (HMD.out.quiet oE);replace HBD:=Hd (HBD.out.quiet oE);have HBLD:=Hd hle;clear hle oE;generalize wd.alloc (.cells #[.int .i64 0,.int .i64 0,.int .i64 0,.int .i64 0] 54)=we at HOD HMD HBD HBLD hH⊢;have q0:we.cell? ⟨gl,0,none⟩=some (.int .i64 0):=ab 0 HBLD.out.heap;have q1:we.cell? ⟨gl,1,none⟩=some (.int .i64 0):=ab 1 HBLD.out.heap;have q2:we.cell? ⟨gl,2,none⟩=some (.int .i64 0):=ab 2 HBLD.out.heap;have q3:we.cell? ⟨gl,3,none⟩=some (.int .i64 0):=ab 3 HBLD.out.heap;have f0:=ae 0 HBLD.out.heap;have f1:=ae 1 HBLD.out.heap;have f2:=ae 2 HBLD.out.heap;have f3:=ae 3 HBLD.out.heap;refine rd 11 (fun K hK=>?_);go_simp;clear q0 q1 q2 q3 f0 f1 f2 f3;have oF:=kn we gl (.int .i64 X) (.int .i64 nn) (.int .i64 0) (.int .i64 0);have hF:=ci HBLD.out.heap (.int .i64 X) (.int .i64 nn) (.int .i64 0) (.int .i64 0);obtain ⟨w2,hw2⟩:∃ w2,w2=((((we.setCell ⟨gl,0,none⟩ (.int .i64 X)).setCell ⟨gl,1,none⟩ (.int .i64 nn)).setCell ⟨gl,2,none⟩ (.int .i64 0)).setCell ⟨gl,3,none⟩ (.int .i64 0)):=⟨_,rfl⟩
  rw [← hw2] at oF hF⊢;clear hw2;have hm2:=HMD.out.beside HBLD.out oF;have hb2:=HBD.out.other oF hbl;have hl2:Bx w2 g v u gl _:=⟨hF,HBLD.out.ng,HBLD.out.nv,HBLD.out.nu⟩
  have hlk2:(Instr.lookup 90 (.map (some bc)) (.string sn) false).run Tryz.prog w2=.ok (.int .i64 X) w2:=by
   obtain ⟨n0,-,hm⟩:=hm2.cmap;have:=hm.look1 Tryz.underlying90 Tryz.underlying3 cC HNM.out;rw [← HSN.out] at this;rw [HXX.out];exact this
  have ht2:MTo w1 g v u w2 v u:=(MTo.before HOD.out (MTo.refl _ _ _ _)).beside oF hlw;refine hK.out _ _ ⟨hm2.c5,ab 1 hb2.heap,ab 3 hb2.heap,hlk2⟩ (fun hH=>?_);clear hK K hH HOD HMD HBD HLC;have HM:=Hd (show MK w2 base g (MSb s ([],s.lps)) v u bl bc by rw [ou];exact hm2);have HT:=Hd ht2;replace HBX:=Hd hb2;have HBL:=Hd hl2;clear HBLD oF hF hm2 hb2 hl2 hlk2 ht2;refine wpAnyH_done (by kernel_rfl) ?_ _;go_wp2_with fail
  refine (eG HM.out HT.out HB1.out 1 0 (by have:=HLN.out;(try have:=HBL.out);simp only [List.length_append,List.length_cons,List.length_nil];omega)).mono ?_;rintro en w3 ⟨rfl,vv,m9,t9,q9⟩;replace HM:=Hd m9;replace HT:=Hd t9;replace HBX:=Hd (HBX.out.call q9);replace HBL:=Hd (HBL.out.call q9);clear m9 t9 q9;have l0:w3.cell? ⟨gl,0,none⟩=some (.int .i64 X):=ab 0 HBL.out.heap;go_wp2_with fail
  refine (eG HM.out HT.out HB1.out 3 X (by have:=HLN.out;(try have:=HBL.out);simp only [List.length_append,List.length_cons,List.length_nil];omega)).mono ?_;rintro en w4 ⟨rfl,vv,m9,t9,q9⟩;replace HM:=Hd m9;replace HT:=Hd t9;replace HBX:=Hd (HBX.out.call q9);replace HBL:=Hd (HBL.out.call q9);clear m9 t9 q9;clear l0;obtain ⟨a,c,rfl⟩:=HM.out.v_shape (n:=s.ins.length+2) rfl;have g2:=HM.out.c2;have l2:w4.cell? ⟨gl,2,none⟩=some (.int .i64 0):=ab 2 HBL.out.heap;have f2:=ae 2 HBL.out.heap;go_upto_region 6 with (fail)
  have o5:=b9 w4 gl 2 (.int .i64 ((s.ins.length:Int)+2));replace HM:=Hd (HM.out.beside HBL.out o5);replace HBX:=Hd (HBX.out.other o5 hbl);replace HT:=Hd (HT.out.beside o5 hlw);replace HBL:=Hd (HBL.out.cell 2 (.int .i64 ((s.ins.length:Int)+2)));clear g2 l2 f2 o5;generalize w4.setCell ⟨gl,2,none⟩ (.int .i64 ((s.ins.length:Int)+2))=w5 at HM HT HBX HBL⊢;have y0:w5.cell? ⟨gb,0,none⟩=some (.int .i64 k):=ab 0 HBX.out.heap
  by_cases h8:k=8
  ·subst h8;have y3:w5.cell? ⟨gb,3,none⟩=some (.int .i64 nn):=ab 3 HBX.out.heap;have hw8:IntKind.i64.wrap (nn - 1)=nn - 1:=by rw [IntKind.wrap_i64];omega
   (go_wp2_with fail);refine (eG HM.out HT.out HB1.out 1 (nn - 1) (by have:=HLN.out;(try have:=HBL.out);simp only [List.length_append,List.length_cons,List.length_nil];omega)).mono ?_;rintro en w6 ⟨rfl,vv,m9,t9,q9⟩;replace HM:=Hd m9;replace HT:=Hd t9;replace HBX:=Hd (HBX.out.call q9);replace HBL:=Hd (HBL.out.call q9);clear m9 t9 q9;clear y0 y3 hw8;have l0:w6.cell? ⟨gl,0,none⟩=some (.int .i64 X):=ab 0 HBL.out.heap;(go_wp2_with fail);refine (eG HM.out HT.out HB1.out 2 X (by have:=HLN.out;(try have:=HBL.out);simp only [List.length_append,List.length_cons,List.length_nil];omega)).mono ?_;rintro en w7 ⟨rfl,vv,m9,t9,q9⟩;replace HM:=Hd m9;replace HT:=Hd t9;replace HBX:=Hd (HBX.out.call q9);replace HBL:=Hd (HBL.out.call q9);clear m9 t9 q9;clear l0;(go_wp2_with fail);refine (iG ⟨#[45]⟩ w7 (by decide)).mono ?_;rintro en w7' ⟨rfl,rfl⟩;rw [show opN (⟨#[45]⟩:ByteArray).data.toList=2 by decide];(go_wp2_with fail);refine (eG HM.out HT.out HB1.out 9 2 (by have:=HLN.out;(try have:=HBL.out);simp only [List.length_append,List.length_cons,List.length_nil];omega)).mono ?_;rintro en w8 ⟨rfl,vv,m9,t9,q9⟩;replace HM:=Hd m9;replace HT:=Hd t9;replace HBX:=Hd (HBX.out.call q9);replace HBL:=Hd (HBL.out.call q9);clear m9 t9 q9;have y1:w8.cell? ⟨gb,1,none⟩=some (.string sn):=ab 1 HBX.out.heap;(go_upto_region 10 with (fail));have oD:Only [] w8 w8.drew:=(Only.refl [] w8).drew;replace HM:=Hd (HM.out.quiet oD);replace HT:=Hd (HT.out.quiet oD);replace HBX:=Hd (HBX.out.quiet oD);replace HBL:=Hd (HBL.out.quiet oD);have hlk:∀ w' v' u' s',MK w' base g s' v' u' bl bc→s'.lm=s.lm→(Instr.lookup 90 (.map (some bl)) (.string sn) false).run Tryz.prog w'=.ok (.int .i64 Y) w':=fun w' v' u' s' hm' e=>by
    obtain ⟨n0,-,hm⟩:=hm'.lmap;have:=hm.look1 Tryz.underlying90 Tryz.underlying3 cC HNM.out;rw [← HSN.out,e] at this;rw [HYY.out];exact this
   refine wp_region_held_drew (S:=fun w'=>w'.cell? ⟨g,4,none⟩=some (.map (some bl))∧w'.cell? ⟨gb,1,none⟩=some (.string sn)∧(Instr.lookup 90 (.map (some bl)) (.string sn) false).run Tryz.prog w'=.ok (.int .i64 Y) w') (by kernel_rfl) ⟨HM.out.c4,ab 1 HBX.out.heap,hlk _ _ _ _ HM.out rfl⟩ (fun hH=>?_);clear oD y1;generalize w8.drew=wg at HM HT HBX HBL hH⊢;refine tk 0 hH ?_;refine tk 1 hH ?_;refine tk 2 hH ?_;refine tk 3 hH ?_;refine tk 4 hH ?_;refine tk 5 hH ?_;refine tk 6 hH ?_;refine tk 7 hH ?_;refine rd 8 (fun K hK=>?_);go_simp;refine (eG HM.out HT.out HB1.out 3 Y (by have:=HLN.out;simp only [List.length_append,List.length_cons,List.length_nil];omega)).mono ?_;rintro en w9 ⟨rfl,v9,m9,t9,q9⟩;replace HM:=Hd m9;replace HT:=Hd t9;replace HBX:=Hd (HBX.out.call q9);replace HBL:=Hd (HBL.out.call q9);refine hK.out _ _ ⟨HM.out.c4,ab 1 HBX.out.heap,hlk _ _ _ _ HM.out rfl⟩ (fun hH=>?_);clear hK K m9 t9 q9 hlk;refine wpAnyH_done (by kernel_rfl) ?_ _;clear hH;obtain ⟨HDL,hhd⟩:∃ l,l=loH s.nv 8 nm nn:=⟨_,rfl⟩
   have hhl:HDL.length=6:=by rw [hhd];rfl
   replace HM:=Hd (show MK w9 base g (MSb s (HDL,s.lps)) v9 u bl bc by
    have e:HDL=[]++[(1,0)]++[(3,X)]++[(1,nn - 1)]++[(2,X)]++[(9,2)]++[(3,Y)]:=by rw [hhd,HXX.out,HYY.out];rfl
    rw [e]
    exact HM.out)
   have HHD:=Hd hhd;clear hhd;have y4:w9.cell? ⟨gb,4,none⟩=some (.slice a1 L1 c1):=ab 4 HBX.out.heap;(go_wp2_with fail);refine (km IB h1 HM.out HT.out HB1.out (by have:=HLN.out;dsimp only;omega) (by have:=HLN.out;dsimp only;omega) HWS.out.1 HWS.out.2.1 HWS.out.2.2 (SsV.kept HT.out.only HKS.out (fun _ h=>h) HVB.out) HB.out).mono ?_;rintro en wa ⟨rfl,va,ua,ma,ta,qa⟩;dsimp only at ma;obtain ⟨b,hbe⟩:∃ b,b=cB s.nv bd (s.ins.length+HDL.length) s.lps:=⟨_,rfl⟩
   have hbl2:=cF s.nv bd (s.ins.length+HDL.length) s.lps;rw [← hbe] at hbl2 ma;have HBB:=Hd hbl2;have HBE:=Hd hbe;replace HM:=Hd ma;replace HT:=Hd ta;replace HBX:=Hd (HBX.out.call qa);replace HBL:=Hd (HBL.out.call qa);clear ma ta qa y4 hbl2 hbe;(try clear y0);obtain ⟨nl,hnl⟩:∃ n,n=b.2.length:=⟨_,rfl⟩
   obtain ⟨z,hz⟩:∃ z:Nat,z=s.ins.length+(HDL++b.1).length:=⟨_,rfl⟩
   obtain ⟨a3,c3,rfl⟩:=HM.out.u_shape hnl;have g3:=HM.out.c3;have KP:=eG HM.out HT.out HB1.out 14 (nl:Int) (by have:=HLN.out;have:=HBB.out;simp only [List.length_append];omega);dsimp only at KP;rw [← hz] at KP;have HZ:=Hd hz;have HNL:=Hd hnl;clear hz hnl;(go_wp2_with fail);refine KP.mono ?_;rintro en wb ⟨rfl,vb,mb,tb,qb⟩;replace HM:=Hd mb;replace HT:=Hd tb;replace HBX:=Hd (HBX.out.call qb);replace HBL:=Hd (HBL.out.call qb);clear mb tb qb KP g3;have l3:wb.cell? ⟨gl,3,none⟩=some (.int .i64 0):=ab 3 HBL.out.heap;have f3:=ae 3 HBL.out.heap;(go_upto_region 13 with (fail));clear l3 f3;have ob:=b9 wb gl 3 (.int .i64 (z:Int));replace HM:=Hd (HM.out.beside HBL.out ob);replace HBX:=Hd (HBX.out.other ob hbl);replace HT:=Hd (HT.out.beside ob hlw);replace HBL:=Hd (HBL.out.cell 3 (.int .i64 (z:Int)));clear ob;generalize wb.setCell ⟨gl,3,none⟩ (.int .i64 (z:Int))=wc at HM HT HBX HBL⊢;have oD:Only [] wc wc.drew:=(Only.refl [] wc).drew;replace HM:=Hd (HM.out.quiet oD);replace HT:=Hd (HT.out.quiet oD);replace HBL:=Hd (HBL.out.quiet oD);clear oD HBX;refine fw (S:=fun w'=>w'.cell? ⟨g,3,none⟩=some (.slice a3 nl c3)∧w'.cell? ⟨gl,0,none⟩=some (.int .i64 X)∧w'.cell? ⟨gl,1,none⟩=some (.int .i64 nn)∧w'.cell? ⟨gl,2,none⟩=some (.int .i64 ((s.ins.length:Int)+2))∧w'.cell? ⟨gl,3,none⟩=some (.int .i64 (z:Int))) [0,1,2,3,4,5,6,7,8,9,10,11] (by kernel_rfl) ⟨HM.out.c3,ab 0 HBL.out.heap,ab 1 HBL.out.heap,ab 2 HBL.out.heap,ab 3 HBL.out.heap⟩ (fun hH=>?_);generalize wc.drew=wd3 at HM HT HBL hH⊢;refine ap (i:=0) (v:=?_) rfl (by kernel_rfl) (by kernel_rfl) (by kernel_rfl) (by kernel_rfl) (fun _ _ _ h=>h) (Or.inl ⟨by rfl,?_⟩) hH ?_;rotate_left
   ·((intro w hSw;(try dsimp only at hSw);go_simp);try with_reducible rfl)
   simp only [Act.put,List.setIfInBounds_toArray,List.set_cons_zero,List.set_cons_succ];refine ap (i:=1) (v:=?_) rfl (by kernel_rfl) (by kernel_rfl) (by kernel_rfl) (by kernel_rfl) (fun _ _ _ h=>h) (Or.inl ⟨by rfl,?_⟩) hH ?_;rotate_left
   ·((intro w hSw;(try dsimp only at hSw);go_simp);try with_reducible rfl)
   simp only [Act.put,List.setIfInBounds_toArray,List.set_cons_zero,List.set_cons_succ];refine ap (i:=2) (v:=?_) rfl (by kernel_rfl) (by kernel_rfl) (by kernel_rfl) (by kernel_rfl) (fun _ _ _ h=>h) (Or.inl ⟨by rfl,?_⟩) hH ?_;rotate_left
   ·((intro w hSw;(try dsimp only at hSw);go_simp);try with_reducible rfl)
   simp only [Act.put,List.setIfInBounds_toArray,List.set_cons_zero,List.set_cons_succ];refine ap (i:=3) (v:=?_) rfl (by kernel_rfl) (by kernel_rfl) (by kernel_rfl) (by kernel_rfl) (fun _ _ _ h=>h) (Or.inl ⟨by rfl,?_⟩) hH ?_;rotate_left
   ·((intro w hSw;(try dsimp only at hSw);go_simp);try with_reducible rfl)
   simp only [Act.put,List.setIfInBounds_toArray,List.set_cons_zero,List.set_cons_succ];refine ap (i:=4) (v:=?_) rfl (by kernel_rfl) (by kernel_rfl) (by kernel_rfl) (by kernel_rfl) (fun _ _ _ h=>h) (Or.inl ⟨by rfl,?_⟩) hH ?_;rotate_left
   ·((intro w hSw;(try dsimp only at hSw);go_simp);try with_reducible rfl)
   simp only [Act.put,List.setIfInBounds_toArray,List.set_cons_zero,List.set_cons_succ];refine ap (i:=5) (v:=?_) rfl (by kernel_rfl) (by kernel_rfl) (by kernel_rfl) (by kernel_rfl) (fun _ _ _ h=>h) (Or.inl ⟨by rfl,?_⟩) hH ?_;rotate_left
   ·((intro w hSw;(try dsimp only at hSw);go_simp);try with_reducible rfl)
   simp only [Act.put,List.setIfInBounds_toArray,List.set_cons_zero,List.set_cons_succ];refine ap (i:=6) (v:=?_) rfl (by kernel_rfl) (by kernel_rfl) (by kernel_rfl) (by kernel_rfl) (fun _ _ _ h=>h) (Or.inl ⟨by rfl,?_⟩) hH ?_;rotate_left
   ·((intro w hSw;(try dsimp only at hSw);go_simp);try with_reducible rfl)
   simp only [Act.put,List.setIfInBounds_toArray,List.set_cons_zero,List.set_cons_succ];refine fO (i:=7) (by kernel_rfl) rfl (fun K hK=>?_);go_simp;have oE:Only [] wd3 (wd3.alloc (.cells #[.int .i64 X,.int .i64 nn,.int .i64 ((s.ins.length:Int)+2),.int .i64 (z:Int)] 54)):=(Only.refl _ _).alloc _;have hnE:=ag wd3 (.cells #[.int .i64 X,.int .i64 nn,.int .i64 ((s.ins.length:Int)+2),.int .i64 (z:Int)] 54);replace HM:=Hd (HM.out.quiet oE);replace HT:=Hd (HT.out.quiet oE);replace HBL:=Hd (HBL.out.quiet oE);have HNE:=Hd hnE;obtain ⟨ge,hge⟩:∃ g,g=wd3.heap.size:=⟨_,rfl⟩
   rw [← hge] at HNE⊢;refine hK.out _ _ ⟨HM.out.c3,ab 0 HBL.out.heap,ab 1 HBL.out.heap,ab 2 HBL.out.heap,ab 3 HBL.out.heap⟩ (fun hH=>?_);clear hK K oE hnE hge;generalize wd3.alloc (.cells #[.int .i64 X,.int .i64 nn,.int .i64 ((s.ins.length:Int)+2),.int .i64 (z:Int)] 54)=we3 at HM HT HBL HNE hH⊢;refine fO (i:=8) (by kernel_rfl) rfl (fun K hK=>?_);refine fm (R:=rL) (by rfl) (.tmp 73) (.tmp 75) (by rfl) base (.slice a3 nl c3) b.2 (by rfl) HM.out.lps (.slice (some ⟨ge,0,none⟩) 1 1) [⟨X,nn,(s.ins.length:Int)+2,(z:Int)⟩] (by rfl) (dz _ _ _ (fun j y hj=>by rw [ab j HNE.out];simpa [rL] using hj)) (nl+1) (by rw [HNL.out];rfl) _ rfl (by have:=HLN.out;have:=HBB.out;have:=HNL.out;omega) (by have:=HB1.out;have:=HT.out.only.size;omega) (fun a4 c4 w4' h4 x4=>?_);obtain ⟨r1,r2,r3⟩:=HM.out.grownL (Only.refl [] we3) h4 x4;have hlu:∀ q∈(Value.slice a3 nl c3).ownBlock.toList,gl≠q:=fun q hq e=>HBL.out.nu (by rw [e];simpa using hq);have hln:gl∉(Value.slice a3 nl c3).ownBlock.toList:=fun h=>hlu gl h rfl;have hY4:=x4.only.heap HBL.out.heap hln;have R2:=Hd r2;have R3:=Hd (HT.out.trans r3);have f3:=ae 3 r1;refine hK.out _ _ ⟨ab 3 r1,ab 0 hY4,ab 1 hY4,ab 2 hY4,ab 3 hY4⟩ (fun hH=>?_);clear hK K h4 x4 r1 r2 r3 hlu hln hY4;refine ap (i:=9) (v:=?_) rfl (by kernel_rfl) (by kernel_rfl) (by kernel_rfl) (by kernel_rfl) (fun _ _ _ h=>h) (Or.inl ⟨by rfl,?_⟩) hH ?_;rotate_left
   ·((intro w hSw;(try dsimp only at hSw);go_simp);try with_reducible rfl)
   simp only [Act.put,List.setIfInBounds_toArray,List.set_cons_zero,List.set_cons_succ];refine ap (i:=10) (v:=?_) rfl (by kernel_rfl) (by kernel_rfl) (by kernel_rfl) (by kernel_rfl) (fun _ _ _ h=>h) (Or.inl ⟨by rfl,?_⟩) hH ?_;rotate_left
   ·((intro w hSw;(try dsimp only at hSw);go_simp);try with_reducible rfl)
   simp only [Act.put,List.setIfInBounds_toArray,List.set_cons_zero,List.set_cons_succ];refine ap (i:=11) (v:=?_) rfl (by kernel_rfl) (by kernel_rfl) (by kernel_rfl) (by kernel_rfl) (fun _ _ _ h=>h) (Or.inl ⟨by rfl,?_⟩) hH ?_;rotate_left
   ·((intro w hSw;(try dsimp only at hSw);go_simp);try with_reducible rfl)
   simp only [Act.put,List.setIfInBounds_toArray,List.set_cons_zero,List.set_cons_succ];refine gW (i:=12) (by kernel_rfl) (by kernel_rfl) rfl (fun K hK=>?_);go_simp;refine hK.out _ _ ?_;clear hK K f3 hH;refine fx (by kernel_rfl) ?_ _;(go_wp2_with fail);(first | go_end0 | ((try simp only [Exit.inBlock,Exit.then]);refine bodyPost_ret (results_none rfl _ _ _) rfl ?_));refine ⟨rfl,_,_,?_,MTo.before HO.out R3.out⟩;have e:R=MSb s (HDL++b.1++[((14:Int),(nl:Int))],b.2++[⟨X,nn,(s.ins.length:Int)+2,(z:Int)⟩]):=by
    rw [HR.out];unfold loS;rw [if_neg hn0];unfold loC;dsimp only;rw [← HHD.out,← HBE.out,← HXX.out,HNL.out];have hz:=HZ.out;rw [List.length_append] at hz;rw [hz];rfl
   rw [e];exact R2.out
  ·have h8':(k == 8)=false:=by simpa using h8
   obtain ⟨HDL,hhd⟩:∃ l,l=loH s.nv k nm nn:=⟨_,rfl⟩
   have hhl:HDL.length=2:=by rw [hhd];unfold loH;rw [if_neg h8];rfl
   replace HM:=Hd (show MK w5 base g (MSb s (HDL,s.lps)) (.slice a (s.ins.length+2) c) u bl bc by
    have e:HDL=[]++[(1,0)]++[(3,X)]:=by rw [hhd];unfold loH;rw [if_neg h8,HXX.out];rfl
    rw [e]
    exact HM.out)
   have HHD:=Hd hhd;clear hhd;have y4:w5.cell? ⟨gb,4,none⟩=some (.slice a1 L1 c1):=ab 4 HBX.out.heap;(go_wp2_with fail);refine (km IB h1 HM.out HT.out HB1.out (by have:=HLN.out;dsimp only;omega) (by have:=HLN.out;dsimp only;omega) HWS.out.1 HWS.out.2.1 HWS.out.2.2 (SsV.kept HT.out.only HKS.out (fun _ h=>h) HVB.out) HB.out).mono ?_;rintro en wa ⟨rfl,va,ua,ma,ta,qa⟩;dsimp only at ma;obtain ⟨b,hbe⟩:∃ b,b=cB s.nv bd (s.ins.length+HDL.length) s.lps:=⟨_,rfl⟩
   have hbl2:=cF s.nv bd (s.ins.length+HDL.length) s.lps;rw [← hbe] at hbl2 ma;have HBB:=Hd hbl2;have HBE:=Hd hbe;replace HM:=Hd ma;replace HT:=Hd ta;replace HBX:=Hd (HBX.out.call qa);replace HBL:=Hd (HBL.out.call qa);clear ma ta qa y4 hbl2 hbe;(try clear y0);obtain ⟨nl,hnl⟩:∃ n,n=b.2.length:=⟨_,rfl⟩
   obtain ⟨z,hz⟩:∃ z:Nat,z=s.ins.length+(HDL++b.1).length:=⟨_,rfl⟩
   obtain ⟨a3,c3,rfl⟩:=HM.out.u_shape hnl;have g3:=HM.out.c3;have KP:=eG HM.out HT.out HB1.out 14 (nl:Int) (by have:=HLN.out;have:=HBB.out;simp only [List.length_append];omega);dsimp only at KP;rw [← hz] at KP;have HZ:=Hd hz;have HNL:=Hd hnl;clear hz hnl;(go_wp2_with fail);refine KP.mono ?_;rintro en wb ⟨rfl,vb,mb,tb,qb⟩;replace HM:=Hd mb;replace HT:=Hd tb;replace HBX:=Hd (HBX.out.call qb);replace HBL:=Hd (HBL.out.call qb);clear mb tb qb KP g3;have l3:wb.cell? ⟨gl,3,none⟩=some (.int .i64 0):=ab 3 HBL.out.heap;have f3:=ae 3 HBL.out.heap;(go_upto_region 13 with (fail));clear l3 f3;have ob:=b9 wb gl 3 (.int .i64 (z:Int));replace HM:=Hd (HM.out.beside HBL.out ob);replace HBX:=Hd (HBX.out.other ob hbl);replace HT:=Hd (HT.out.beside ob hlw);replace HBL:=Hd (HBL.out.cell 3 (.int .i64 (z:Int)));clear ob;generalize wb.setCell ⟨gl,3,none⟩ (.int .i64 (z:Int))=wc at HM HT HBX HBL⊢;have oD:Only [] wc wc.drew:=(Only.refl [] wc).drew;replace HM:=Hd (HM.out.quiet oD);replace HT:=Hd (HT.out.quiet oD);replace HBL:=Hd (HBL.out.quiet oD);clear oD HBX;refine fw (S:=fun w'=>w'.cell? ⟨g,3,none⟩=some (.slice a3 nl c3)∧w'.cell? ⟨gl,0,none⟩=some (.int .i64 X)∧w'.cell? ⟨gl,1,none⟩=some (.int .i64 nn)∧w'.cell? ⟨gl,2,none⟩=some (.int .i64 ((s.ins.length:Int)+2))∧w'.cell? ⟨gl,3,none⟩=some (.int .i64 (z:Int))) [0,1,2,3,4,5,6,7,8,9,10,11] (by kernel_rfl) ⟨HM.out.c3,ab 0 HBL.out.heap,ab 1 HBL.out.heap,ab 2 HBL.out.heap,ab 3 HBL.out.heap⟩ (fun hH=>?_);generalize wc.drew=wd3 at HM HT HBL hH⊢;refine ap (i:=0) (v:=?_) rfl (by kernel_rfl) (by kernel_rfl) (by kernel_rfl) (by kernel_rfl) (fun _ _ _ h=>h) (Or.inl ⟨by rfl,?_⟩) hH ?_;rotate_left
   ·((intro w hSw;(try dsimp only at hSw);go_simp);try with_reducible rfl)
   simp only [Act.put,List.setIfInBounds_toArray,List.set_cons_zero,List.set_cons_succ];refine ap (i:=1) (v:=?_) rfl (by kernel_rfl) (by kernel_rfl) (by kernel_rfl) (by kernel_rfl) (fun _ _ _ h=>h) (Or.inl ⟨by rfl,?_⟩) hH ?_;rotate_left
   ·((intro w hSw;(try dsimp only at hSw);go_simp);try with_reducible rfl)
   simp only [Act.put,List.setIfInBounds_toArray,List.set_cons_zero,List.set_cons_succ];refine ap (i:=2) (v:=?_) rfl (by kernel_rfl) (by kernel_rfl) (by kernel_rfl) (by kernel_rfl) (fun _ _ _ h=>h) (Or.inl ⟨by rfl,?_⟩) hH ?_;rotate_left
   ·((intro w hSw;(try dsimp only at hSw);go_simp);try with_reducible rfl)
   simp only [Act.put,List.setIfInBounds_toArray,List.set_cons_zero,List.set_cons_succ];refine ap (i:=3) (v:=?_) rfl (by kernel_rfl) (by kernel_rfl) (by kernel_rfl) (by kernel_rfl) (fun _ _ _ h=>h) (Or.inl ⟨by rfl,?_⟩) hH ?_;rotate_left
   ·((intro w hSw;(try dsimp only at hSw);go_simp);try with_reducible rfl)
   simp only [Act.put,List.setIfInBounds_toArray,List.set_cons_zero,List.set_cons_succ];refine ap (i:=4) (v:=?_) rfl (by kernel_rfl) (by kernel_rfl) (by kernel_rfl) (by kernel_rfl) (fun _ _ _ h=>h) (Or.inl ⟨by rfl,?_⟩) hH ?_;rotate_left
   ·((intro w hSw;(try dsimp only at hSw);go_simp);try with_reducible rfl)
   simp only [Act.put,List.setIfInBounds_toArray,List.set_cons_zero,List.set_cons_succ];refine ap (i:=5) (v:=?_) rfl (by kernel_rfl) (by kernel_rfl) (by kernel_rfl) (by kernel_rfl) (fun _ _ _ h=>h) (Or.inl ⟨by rfl,?_⟩) hH ?_;rotate_left
   ·((intro w hSw;(try dsimp only at hSw);go_simp);try with_reducible rfl)
   simp only [Act.put,List.setIfInBounds_toArray,List.set_cons_zero,List.set_cons_succ];refine ap (i:=6) (v:=?_) rfl (by kernel_rfl) (by kernel_rfl) (by kernel_rfl) (by kernel_rfl) (fun _ _ _ h=>h) (Or.inl ⟨by rfl,?_⟩) hH ?_;rotate_left
   ·((intro w hSw;(try dsimp only at hSw);go_simp);try with_reducible rfl)
   simp only [Act.put,List.setIfInBounds_toArray,List.set_cons_zero,List.set_cons_succ];refine fO (i:=7) (by kernel_rfl) rfl (fun K hK=>?_);go_simp;have oE:Only [] wd3 (wd3.alloc (.cells #[.int .i64 X,.int .i64 nn,.int .i64 ((s.ins.length:Int)+2),.int .i64 (z:Int)] 54)):=(Only.refl _ _).alloc _;have hnE:=ag wd3 (.cells #[.int .i64 X,.int .i64 nn,.int .i64 ((s.ins.length:Int)+2),.int .i64 (z:Int)] 54);replace HM:=Hd (HM.out.quiet oE);replace HT:=Hd (HT.out.quiet oE);replace HBL:=Hd (HBL.out.quiet oE);have HNE:=Hd hnE;obtain ⟨ge,hge⟩:∃ g,g=wd3.heap.size:=⟨_,rfl⟩
   rw [← hge] at HNE⊢;refine hK.out _ _ ⟨HM.out.c3,ab 0 HBL.out.heap,ab 1 HBL.out.heap,ab 2 HBL.out.heap,ab 3 HBL.out.heap⟩ (fun hH=>?_);clear hK K oE hnE hge;generalize wd3.alloc (.cells #[.int .i64 X,.int .i64 nn,.int .i64 ((s.ins.length:Int)+2),.int .i64 (z:Int)] 54)=we3 at HM HT HBL HNE hH⊢;refine fO (i:=8) (by kernel_rfl) rfl (fun K hK=>?_);refine fm (R:=rL) (by rfl) (.tmp 73) (.tmp 75) (by rfl) base (.slice a3 nl c3) b.2 (by rfl) HM.out.lps (.slice (some ⟨ge,0,none⟩) 1 1) [⟨X,nn,(s.ins.length:Int)+2,(z:Int)⟩] (by rfl) (dz _ _ _ (fun j y hj=>by rw [ab j HNE.out];simpa [rL] using hj)) (nl+1) (by rw [HNL.out];rfl) _ rfl (by have:=HLN.out;have:=HBB.out;have:=HNL.out;omega) (by have:=HB1.out;have:=HT.out.only.size;omega) (fun a4 c4 w4' h4 x4=>?_);obtain ⟨r1,r2,r3⟩:=HM.out.grownL (Only.refl [] we3) h4 x4;have hlu:∀ q∈(Value.slice a3 nl c3).ownBlock.toList,gl≠q:=fun q hq e=>HBL.out.nu (by rw [e];simpa using hq);have hln:gl∉(Value.slice a3 nl c3).ownBlock.toList:=fun h=>hlu gl h rfl;have hY4:=x4.only.heap HBL.out.heap hln;have R2:=Hd r2;have R3:=Hd (HT.out.trans r3);have f3:=ae 3 r1;refine hK.out _ _ ⟨ab 3 r1,ab 0 hY4,ab 1 hY4,ab 2 hY4,ab 3 hY4⟩ (fun hH=>?_);clear hK K h4 x4 r1 r2 r3 hlu hln hY4;refine ap (i:=9) (v:=?_) rfl (by kernel_rfl) (by kernel_rfl) (by kernel_rfl) (by kernel_rfl) (fun _ _ _ h=>h) (Or.inl ⟨by rfl,?_⟩) hH ?_;rotate_left
   ·((intro w hSw;(try dsimp only at hSw);go_simp);try with_reducible rfl)
   simp only [Act.put,List.setIfInBounds_toArray,List.set_cons_zero,List.set_cons_succ];refine ap (i:=10) (v:=?_) rfl (by kernel_rfl) (by kernel_rfl) (by kernel_rfl) (by kernel_rfl) (fun _ _ _ h=>h) (Or.inl ⟨by rfl,?_⟩) hH ?_;rotate_left
   ·((intro w hSw;(try dsimp only at hSw);go_simp);try with_reducible rfl)
   simp only [Act.put,List.setIfInBounds_toArray,List.set_cons_zero,List.set_cons_succ];refine ap (i:=11) (v:=?_) rfl (by kernel_rfl) (by kernel_rfl) (by kernel_rfl) (by kernel_rfl) (fun _ _ _ h=>h) (Or.inl ⟨by rfl,?_⟩) hH ?_;rotate_left
   ·((intro w hSw;(try dsimp only at hSw);go_simp);try with_reducible rfl)
   simp only [Act.put,List.setIfInBounds_toArray,List.set_cons_zero,List.set_cons_succ];refine gW (i:=12) (by kernel_rfl) (by kernel_rfl) rfl (fun K hK=>?_);go_simp;refine hK.out _ _ ?_;clear hK K f3 hH;refine fx (by kernel_rfl) ?_ _;(go_wp2_with fail);(first | go_end0 | ((try simp only [Exit.inBlock,Exit.then]);refine bodyPost_ret (results_none rfl _ _ _) rfl ?_));refine ⟨rfl,_,_,?_,MTo.before HO.out R3.out⟩;have e:R=MSb s (HDL++b.1++[((14:Int),(nl:Int))],b.2++[⟨X,nn,(s.ins.length:Int)+2,(z:Int)⟩]):=by
    rw [HR.out];unfold loS;rw [if_neg hn0];unfold loC;dsimp only;rw [← HHD.out,← HBE.out,← HXX.out,HNL.out];have hz:=HZ.out;rw [List.length_append] at hz;rw [hz];rfl
   rw [e];exact R2.out
def lastI (F:Nv) (k:Int) (nm:Sec):Ins:=if k=1 then (3,F.lc nm) else (k+3,0)
def iW (F:Nv) (k:Int) (nm:Sec) (n:Int) (bd els:List St) (h:Nat) (lp:List Lp):List Ins×List Lp:=
 if k=6 then chC F bd els h lp else if k=7∨k=8 then loS F k nm n bd h lp else ([lastI F k nm],lp)
theorem xw (F:Nv) (hF:F.c7=F.c8) {k:Int} {nm:Sec} {xs:List E} {n:Int} {bd els:List St} {p:Int} (hs:isS k xs.length n) (h:Nat) (lp:List Lp) :
  mE F (.mk k nm xs n bd els p) h lp=(cM F xs++(iW F k nm n bd els (h+(cM F xs).length) lp).1,(iW F k nm n bd els (h+(cM F xs).length) lp).2):=by
 have hx:k=7∨k=8→cM F xs=[]:=fun hk=>by
  have:xs=[]:=List.eq_nil_of_length_eq_zero (by unfold isS at hs;omega);rw [this,eV]
 unfold mE iW
 by_cases h1:k=1
 ·rw [if_pos h1,if_neg (by omega),if_neg (by omega)];unfold lastI;rw [if_pos h1]
 ·rw [if_neg h1]
  by_cases h6:k=6
  ·rw [if_pos h6,if_pos h6];unfold chC;dsimp only;split
   ·simp
   ·simp [Nat.add_assoc]
  ·rw [if_neg h6,if_neg h6]
   by_cases h7:k=7
   ·rw [if_pos h7,if_pos (Or.inl h7)];rw [hx (.inl h7)];unfold loS
    by_cases hn:n=0
    ·rw [if_pos hn,if_pos hn];simp
    ·rw [if_neg hn,if_neg hn];unfold loC loH;rw [if_neg (by omega)];dsimp only;rw [hF];simp [Nat.add_comm,Nat.add_left_comm,Nat.add_assoc]
   ·rw [if_neg h7]
    by_cases h8:k=8
    ·rw [if_pos h8,if_pos (Or.inr h8)];rw [hx (.inr h8)];unfold loS
     by_cases hn:n=0
     ·rw [if_pos hn,if_pos hn];simp
     ·rw [if_neg hn,if_neg hn];unfold loC loH;rw [if_pos h8];dsimp only;simp [Nat.add_comm,Nat.add_left_comm,Nat.add_assoc]
    ·rw [if_neg h8,if_neg (show ¬ (k=7∨k=8) by omega)];unfold lastI;rw [if_neg h1];unfold isS at hs;have:k=2∨k=3∨k=4∨k=5:=by omega
     rcases this with rfl | rfl | rfl | rfl<;>simp
theorem gB_mem:∀ {xs:List St} {j:Nat} {e:St},gB xs→xs[j]?=some e→gS e
 | [],j,e,_,h=>by simp at h
 | x :: xs,0,e,h,hj=>by unfold gB at h;simp at hj;subst hj;exact h.1
 | x :: xs,j+1,e,h,hj=>by unfold gB at h;exact gB_mem h.2 (by simpa using hj)
theorem qw (N:Nat) (hN4:N≤480) (IB:∀ M,M < N→BG M):BG N:=by
 intro xs hN w base g s v u bl bc xv B h hb hf hl hw hg hfw hv hB;obtain ⟨a,cap,rfl,-⟩:=id hv;obtain ⟨n,hn⟩:∃ n,n=xs.length:=⟨_,rfl⟩
 have hnb:n≤1000000:=by have:=cI xs;omega
 rw [← hn] at hv⊢;obtain ⟨R,hR⟩:∃ R,R=MSb s (cB s.nv xs s.ins.length s.lps):=⟨_,rfl⟩
 rw [← hR];have HR:=Hd hR;have HN:=Hd hn;have HH:=Hd h;have HV:=Hd hv;have HWS:=Hd (And.intro hw (And.intro hg hfw));have HB:=Hd hB;have HBW:=Hd (show base≤w.heap.size from hb);have HLN:=Hd (And.intro hf hl);have hks:=MTo.keeps (w':=w) (v':=v) (u':=u) h hB;have HKS:=Hd hks;have HM0:=Hd (show MK w base g (MSb s ([],s.lps)) v u bl bc by rw [ou];exact h);clear h hb hf hl hw hg hfw hv hB hn hR hks
 go_enter Tryz.func38,Tryz.ntmps38
 go_wp2_with fail
 go_step3;go_wp2_with fail
 go_step3;go_wp2_with fail
 go_loopg [11] n (fun gk ix wr=>∃ (j:Nat) (vj uj:Value),j≤n∧j+gk=n∧ix=.int .i64 (j:Int)∧Hid (MK wr base g (MSb s (cB s.nv (xs.take j) s.ins.length s.lps)) vj uj bl bc)∧Hid (MTo w g v u wr vj uj))
 case atStart=>exact ⟨0,v,u,Nat.zero_le _,by omega,rfl,Hd (by rw [List.take_zero,mh];exact HM0.out),Hd (MTo.refl _ _ _ _)⟩
 case round=>
  obtain ⟨j,vj,uj,hjn,hjg,rfl,HM,HT⟩:=hrel
  by_cases hlt:j < n
  ·have hlt':(j:Int) < (n:Int):=by omega
   have j0:(0:Int)≤(j:Int):=by omega
   obtain ⟨-,gr,k,nm,ys,nn,bd,els,p,a0,c0,a1,c1,a2,c2,rfl,he,x0,x1,x2,x3,x4,x5,x6,hv0,hv1,hv2⟩:=(SsV.kept HT.out.only HKS.out (fun _ h=>h) HV.out).elem hlt;have hws:=vd HWS.out.1 he;have hgs:=gB_mem HWS.out.2.1 he;have hfs:=lV HWS.out.2.2 he;unfold wS at hws;unfold gS at hgs;unfold sz at hfs;obtain ⟨hik,hnm,hwx,hwbd,hwels⟩:=hws;obtain ⟨-,hgx,hgbd,hgels⟩:=hgs;obtain ⟨hfn,hfbd,hfels⟩:=hfs;have hT1:=jz he;have hT2:=dv xs (j+1);have hT3:bn (.mk k nm ys nn bd els p)=1+aq ys+ah bd+ah els:=f9 _ _ _ _ _ _ _;rw [hT3] at hT1;obtain ⟨r,hr⟩:∃ r,r=cB s.nv (xs.take j) s.ins.length s.lps:=⟨_,rfl⟩
   have hrl:=cF s.nv (xs.take j) s.ins.length s.lps;rw [← hr] at HM hrl;have hnx:MSb s (cB s.nv (xs.take (j+1)) s.ins.length s.lps)=MSb s (r.1++cM s.nv ys++(iW s.nv k nm nn bd els (s.ins.length+(r.1++cM s.nv ys).length) r.2).1,(iW s.nv k nm nn bd els (s.ins.length+(r.1++cM s.nv ys).length) r.2).2):=by
    rw [ww s.nv he,← hr,xw s.nv rfl hik];dsimp only;rw [List.length_append,← Nat.add_assoc,List.append_assoc]
   have HNX:=Hd hnx;obtain ⟨ts,hts⟩:∃ t,t=ah (xs.take j):=⟨_,rfl⟩
   obtain ⟨tt,htt⟩:∃ t,t=ah xs:=⟨_,rfl⟩
   rw [← hts] at hT1 hrl;rw [hT1] at hT2;have hln:=HLN.out;rw [← htt] at hln hT2;have hx4:aq ys≤480:=by omega
   have hMM:ah bd+ah els < N:=by omega
   have HC:=Hd (And.intro (show s.ins.length+10*(ts+(1+aq ys+ah bd+ah els))≤200000∧s.lps.length+(ts+(1+aq ys+ah bd+ah els))≤200000 by omega) hrl);have IB':=IB _ hMM;obtain ⟨L0,hL0⟩:∃ L,L=ys.length:=⟨_,rfl⟩
   obtain ⟨L1,hL1⟩:∃ L,L=bd.length:=⟨_,rfl⟩
   obtain ⟨L2,hL2⟩:∃ L,L=els.length:=⟨_,rfl⟩
   obtain ⟨sn,hsn⟩:∃ sn,sn=aj nm:=⟨_,rfl⟩
   have hL0b:L0≤480:=by have:=dh ys;omega
   have hik':=hik;rw [← hL0] at x2 hv0 hik;rw [← hL1] at x4 hv1;rw [← hL2] at x5 hv2;rw [← hsn] at x1;have HL0:=Hd hL0;have HLL:=Hd (And.intro hL1 hL2);have HSN:=Hd hsn;have HNM:=Hd hnm;have HX:=Hd (And.intro hwx hgx);have HBD:=Hd (And.intro (And.intro hwbd hwels) (And.intro (And.intro hgbd hgels) (And.intro hfbd hfels)));have HFN:=Hd hfn;have HIB:=Hd IB';have HI:=Hd hik';clear he hnm hwx hwbd hwels hgx hgbd hgels hfn hfbd hfels hT1 hT2 hT3 hrl hnx hr hln IB' hL0 hL1 hL2 hsn hik hik' hMM hlt hts htt;(go_upto_region 3 with (fail));have oA:Only [] wr (wr.alloc (.cells #[.int .i64 k,.string sn,.slice a0 L0 c0,.int .i64 nn,.slice a1 L1 c1,.slice a2 L2 c2,.int .i64 p] 113)):=(Only.refl _ _).alloc _;have hbx:=Bx.new HM.out (.cells #[.int .i64 k,.string sn,.slice a0 L0 c0,.int .i64 nn,.slice a1 L1 c1,.slice a2 L2 c2,.int .i64 p] 113);obtain ⟨gb,hgb⟩:∃ g,g=wr.heap.size:=⟨_,rfl⟩
   rw [← hgb] at hbx⊢;replace HM:=Hd (HM.out.quiet oA);replace HT:=Hd (HT.out.quiet oA);have HBX:=Hd hbx;have HV0:=Hd (hv0.quiet oA);have HV1:=Hd (hv1.quiet oA);have HV2:=Hd (hv2.quiet oA);clear oA hbx hgb x0 x1 x2 x3 x4 x5 x6 hv0 hv1 hv2;generalize wr.alloc (.cells #[.int .i64 k,.string sn,.slice a0 L0 c0,.int .i64 nn,.slice a1 L1 c1,.slice a2 L2 c2,.int .i64 p] 113)=w1 at HM HT HBX HV0 HV1 HV2⊢;have hks1:=MTo.keeps (w':=w1) (v':=vj) (u':=uj) HM.out HB.out;have HKS1:=Hd hks1;clear hks1;have y2:w1.cell? ⟨gb,2,none⟩=some (.slice a0 L0 c0):=ab 2 HBX.out.heap;(go_wp2_with fail);clear y2
   go_loopw [18] (fun iq wq=>∃ (q:Nat) (vq:Value),q≤L0∧iq=.int .i64 (q:Int)∧Hid (MK wq base g (MSb s (r.1++cM s.nv (ys.take q),r.2)) vq uj bl bc)∧Hid (MTo w1 g vj uj wq vq uj)∧Hid (Bx wq g vq uj gb (.cells #[.int .i64 k,.string sn,.slice a0 L0 c0,.int .i64 nn,.slice a1 L1 c1,.slice a2 L2 c2,.int .i64 p] 113))) (fun iq _=>L0 - (intOf iq).toNat)
   case atStart=>exact ⟨0,vj,Nat.zero_le _,rfl,Hd (by rw [List.take_zero,eV,List.append_nil];exact HM.out),Hd (MTo.refl _ _ _ _),HBX⟩
   case round=>
    obtain ⟨q,vq,hqn,rfl,HMq,HTq,HBq⟩:=hrel
    by_cases hqt:q < L0
    ·have hqt':(q:Int) < (L0:Int):=by omega
     have q0:(0:Int)≤(q:Int):=by omega
     obtain ⟨e,he⟩:∃ e,ys[q]?=some e:=⟨_,List.getElem?_eq_getElem (by rw [← HL0.out];exact hqt)⟩
     obtain ⟨gq,rfl,hgq,hes⟩:∃ gq,a0=some ⟨gq,0,none⟩∧B gq∧EsO w1 B gq 0 ys:=by
      obtain ⟨a',cap',e',-,hx⟩:=HV0.out;injection e' with e1 _ _
      subst e1;rcases hx with hx | ⟨gq,h1,h2,h3⟩
      ·rw [hx] at he;simp at he
      ·exact ⟨gq,h1,h2,EsAt.eso ys 0 0 rfl h3⟩
     obtain ⟨k1,n1,sn1,b1,l1,d1,p1,hev1,hat1⟩:=hes.at5 he;have hat:=hat1.kept HTq.out.only (fun hh=>HKS1.out gq hh hgq);have z0:=hat.c0;have z1:=hat.c1;have z2:=hat.c2;have z3:=hat.c3;have z4:=hat.c4;have HEVq:=Hd (EV.kept HTq.out.only HKS1.out (fun _ h=>h) e _ hev1);have HSE:=Hd (di he);have HGT:=Hd (nH s.nv he);have HSL:=Hd (And.intro (ce he) (bj ys (q+1)));have HGN:=Hd (dX s.nv (ys.take q));have HWE:=Hd (And.intro (jy HX.out.1 he) (kh HX.out.2 he));clear he hes hev1 hat1 hat hqt;(go_upto_region 6 with (fail));obtain ⟨w5,q9,o5,hY5,-⟩:=nb wr (.cells #[.int .i64 k1,.int .i64 n1,.string sn1,.slice b1 l1 d1,.int .i64 p1] 95);rw [← q9];clear q9;have x0:w5.cell? ⟨wr.heap.size,0,none⟩=some (.int .i64 k1):=ab 0 hY5;have x1:w5.cell? ⟨wr.heap.size,1,none⟩=some (.int .i64 n1):=ab 1 hY5;have x2:w5.cell? ⟨wr.heap.size,2,none⟩=some (.string sn1):=ab 2 hY5;have x3:w5.cell? ⟨wr.heap.size,3,none⟩=some (.slice b1 l1 d1):=ab 3 hY5;have x4:w5.cell? ⟨wr.heap.size,4,none⟩=some (.int .i64 p1):=ab 4 hY5;have K1:=gP 480 (Nat.le_refl _) e (Nat.le_trans HSE.out hx4) w5 base g _ _ uj bl bc _ B (HMq.out.quiet o5) (by have:=HBW.out;have:=HT.out.only.size;have:=HTq.out.only.size;have:=o5.size;omega) (by rw [cA,List.length_append];have:=HSE.out;have:=HSL.out;have:=HGN.out;have:=HC.out;omega) HWE.out.1 HWE.out.2 (HEVq.out.quiet o5) HB.out;have HT5:=Hd (HTq.out.quiet o5);have HB5:=Hd (HBq.out.quiet o5);clear o5 hY5 z0 z1 z2 z3 z4;(go_wp2_with fail);refine K1.mono ?_;rintro en w6 ⟨rfl,v6,m6,t6⟩;rw [lw,MSi_b] at m6;dsimp only at m6;rw [List.append_assoc,← HGT.out] at m6;have HT6:=Hd (HT5.out.trans t6);have HM6:=Hd m6;have HB6:=Hd (HB5.out.call t6);clear m6 t6 K1 x0 x1 x2 x3 x4;(go_wp2_with fail);refine ⟨⟨q+1,v6,by omega,by simp,HM6,HT6,HB6⟩,?_⟩;simp [intOf];omega
    ·obtain rfl:L0=q:=by omega
     have hm:=HMq.out;rw [HL0.out,List.take_length] at hm;replace HM:=Hd hm;replace HT:=Hd (HT.out.trans HTq.out);have HBX:=HBq;have hgl:=dX s.nv ys;obtain ⟨ge,hge⟩:∃ l,l=cM s.nv ys:=⟨_,rfl⟩
     rw [← hge] at HM hgl HNX;have HGL:=Hd hgl;have hv1:=SsV.kept HTq.out.only HKS1.out (fun _ h=>h) HV1.out;have hv2:=SsV.kept HTq.out.only HKS1.out (fun _ h=>h) HV2.out;have hv0:=EsV.kept HTq.out.only HKS1.out (fun _ h=>h) HV0.out;replace HV0:=Hd hv0;replace HV1:=Hd hv1;replace HV2:=Hd hv2;clear hm hgl hge hv0 hv1 hv2 HMq HTq HBq HM0 hqn;generalize wr=wb at HM HT HBX HV0 HV1 HV2⊢;have y0:wb.cell? ⟨gb,0,none⟩=some (.int .i64 k):=ab 0 HBX.out.heap;have hbw3:=HBW.out;(go_upto_region 9 with (fail));have oI:Only [] wb (wb.alloc (.cells #[.int .i64 0,.int .i64 0] 52)):=(Only.refl _ _).alloc _;have hbi:=Bx.new HM.out (.cells #[.int .i64 0,.int .i64 0] 52);obtain ⟨gi,hgi⟩:∃ g,g=wb.heap.size:=⟨_,rfl⟩
     have hbg:=HBX.out.lt;have hne:gi≠gb:=by omega
     have hwi:w.heap.size≤gi:=by have:=HT.out.only.size;omega
     rw [← hgi] at hbi⊢;replace HM:=Hd (HM.out.quiet oI);replace HT:=Hd (HT.out.quiet oI);replace HBX:=Hd (HBX.out.quiet oI);replace HV0:=Hd (HV0.out.quiet oI);replace HV1:=Hd (HV1.out.quiet oI);replace HV2:=Hd (HV2.out.quiet oI);have HBI:=Hd hbi;clear oI hbi hgi hbg y0 hbw3;generalize wb.alloc (.cells #[.int .i64 0,.int .i64 0] 52)=w3 at HM HT HBX HV0 HV1 HV2 HBI⊢;have HB3:=Hd (show base≤w3.heap.size by have:=HBW.out;have:=HT.out.only.size;omega);have y0:w3.cell? ⟨gb,0,none⟩=some (.int .i64 k):=ab 0 HBX.out.heap;have hi:=HI.out
     by_cases h6:k=6
     ·subst h6;have y1:w3.cell? ⟨gb,1,none⟩=some (.string sn):=ab 1 HBX.out.heap;have y2:w3.cell? ⟨gb,2,none⟩=some (.slice a0 L0 c0):=ab 2 HBX.out.heap;have y3:w3.cell? ⟨gb,3,none⟩=some (.int .i64 nn):=ab 3 HBX.out.heap;have y4:w3.cell? ⟨gb,4,none⟩=some (.slice a1 L1 c1):=ab 4 HBX.out.heap;have y5:w3.cell? ⟨gb,5,none⟩=some (.slice a2 L2 c2):=ab 5 HBX.out.heap;have y6:w3.cell? ⟨gb,6,none⟩=some (.int .i64 p):=ab 6 HBX.out.heap;have KC:=tG HIB.out HM.out HB3.out (by omega) (by omega) (by rw [cA,List.length_append];have:=HC.out;have:=HGL.out;omega) (by show r.2.length+_≤_;have:=HC.out;omega) HBD.out.1.1 HBD.out.1.2 HBD.out.2.1.1 HBD.out.2.1.2 HBD.out.2.2.1 HBD.out.2.2.2 (SV.mk' (k:=6) (nm:=nm) (n:=nn) (p:=p) HV0.out HV1.out HV2.out) HB.out;rw [lw,cA,MSb_b,← HSN.out] at KC;have HRC:=Hd (show iW s.nv 6 nm nn bd els (s.ins.length+(r.1++ge).length) r.2=chC s.nv bd els (s.ins.length+(r.1++ge).length) r.2 by unfold iW;rw [if_pos rfl]);clear hi;(go_wp2_with fail);refine KC.mono ?_;rintro en w9 ⟨rfl,v9,u9,m9,t9⟩;have M9:=Hd m9;have T9:=Hd t9;clear KC m9 t9 y0 y1 y2 y3 y4 y5 y6;go_wp2_with fail
      go_roundg (n - (j+1))
      case measure=>omega
      case rel=>exact ⟨j+1,v9,u9,by omega,by omega,by go_num,Hd (by rw [HNX.out,HRC.out];exact M9.out),Hd (HT.out.trans T9.out)⟩
     ·have e6:(k == 6)=false:=by simpa using h6
      by_cases h78:k=7∨k=8
      ·skip
       have y1:w3.cell? ⟨gb,1,none⟩=some (.string sn):=ab 1 HBX.out.heap;have y2:w3.cell? ⟨gb,2,none⟩=some (.slice a0 L0 c0):=ab 2 HBX.out.heap;have y3:w3.cell? ⟨gb,3,none⟩=some (.int .i64 nn):=ab 3 HBX.out.heap;have y4:w3.cell? ⟨gb,4,none⟩=some (.slice a1 L1 c1):=ab 4 HBX.out.heap;have y5:w3.cell? ⟨gb,5,none⟩=some (.slice a2 L2 c2):=ab 5 HBX.out.heap;have y6:w3.cell? ⟨gb,6,none⟩=some (.int .i64 p):=ab 6 HBX.out.heap;have KL:=loop_any HIB.out HM.out HB3.out (by omega) (by rw [cA,List.length_append];have:=HC.out;have:=HGL.out;omega) (by show r.2.length+_≤_;have:=HC.out;omega) HBD.out.1.1 HBD.out.2.1.1 HBD.out.2.2.1 h78 (HFN.out h78) HNM.out (SV.mk' (k:=k) (nm:=nm) (n:=nn) (p:=p) HV0.out HV1.out HV2.out) HB.out;rw [lw,cA,MSb_b,← HSN.out] at KL;have HRC:=Hd (show iW s.nv k nm nn bd els (s.ins.length+(r.1++ge).length) r.2=loS s.nv k nm nn bd (s.ins.length+(r.1++ge).length) r.2 by unfold iW;rw [if_neg h6,if_pos h78]);clear hi;rcases h78 with rfl | rfl
       ·skip
        (go_wp2_with fail);refine KL.mono ?_;rintro en w9 ⟨rfl,v9,u9,m9,t9⟩;have M9:=Hd m9;have T9:=Hd t9;clear KL m9 t9 y0 y1 y2 y3 y4 y5 y6;go_wp2_with fail
        go_roundg (n - (j+1))
        case measure=>omega
        case rel=>exact ⟨j+1,v9,u9,by omega,by omega,by go_num,Hd (by rw [HNX.out,HRC.out];exact M9.out),Hd (HT.out.trans T9.out)⟩
       ·skip
        (go_wp2_with fail);refine KL.mono ?_;rintro en w9 ⟨rfl,v9,u9,m9,t9⟩;have M9:=Hd m9;have T9:=Hd t9;clear KL m9 t9 y0 y1 y2 y3 y4 y5 y6;go_wp2_with fail
        go_roundg (n - (j+1))
        case measure=>omega
        case rel=>exact ⟨j+1,v9,u9,by omega,by omega,by go_num,Hd (by rw [HNX.out,HRC.out];exact M9.out),Hd (HT.out.trans T9.out)⟩
      ·have e7:(k == 7)=false:=by simp;omega
       have e8:(k == 8)=false:=by simp;omega
       have HRC:=Hd (show iW s.nv k nm nn bd els (s.ins.length+(r.1++ge).length) r.2=([lastI s.nv k nm],r.2) by unfold iW;rw [if_neg h6,if_neg h78])
       by_cases h1:k=1
       ·subst h1;obtain ⟨X,hX⟩:∃ X,X=s.nv.lc nm:=⟨_,rfl⟩
        have HXX:=Hd hX;replace HRC:=Hd (show iW s.nv 1 nm nn bd els (s.ins.length+(r.1++ge).length) r.2=([((3:Int),X)],r.2) by rw [HRC.out,hX];rfl);have hlk:∀ w' v' u' s',MK w' base g s' v' u' bl bc→s'.lm=s.lm→(Instr.lookup 90 (.map (some bl)) (.string sn) false).run Tryz.prog w'=.ok (.int .i64 X) w':=fun w' v' u' s' hm' e=>by
         obtain ⟨n0,-,hm⟩:=hm'.lmap;have:=hm.look1 Tryz.underlying90 Tryz.underlying3 cC HNM.out;rw [← HSN.out,e] at this;rw [HXX.out];exact this
        have HLK:=Hd hlk;clear hi hX hlk;(go_upto_region 16 with (fail));have oD:Only [] w3 w3.drew:=(Only.refl [] w3).drew;replace HM:=Hd (HM.out.quiet oD);replace HT:=Hd (HT.out.quiet oD);replace HBX:=Hd (HBX.out.quiet oD);replace HBI:=Hd (HBI.out.quiet oD);refine wp_region_held_drew (S:=fun w'=>w'.cell? ⟨g,4,none⟩=some (.map (some bl))∧w'.cell? ⟨gb,1,none⟩=some (.string sn)∧(Instr.lookup 90 (.map (some bl)) (.string sn) false).run Tryz.prog w'=.ok (.int .i64 X) w') (by kernel_rfl) ⟨HM.out.c4,ab 1 HBX.out.heap,HLK.out _ _ _ _ HM.out rfl⟩ (fun hH=>?_);clear oD y0;generalize w3.drew=wd at HM HT HBX HBI hH⊢;refine tk 0 hH ?_;refine tk 1 hH ?_;refine tk 2 hH ?_;refine tk 3 hH ?_;refine tk 4 hH ?_;refine tk 5 hH ?_;refine tk 6 hH ?_;refine tk 7 hH ?_;have q0:wd.cell? ⟨gi,0,none⟩=some (.int .i64 0):=ab 0 HBI.out.heap;have q1:wd.cell? ⟨gi,1,none⟩=some (.int .i64 0):=ab 1 HBI.out.heap;have f0:=ae 0 HBI.out.heap;have f1:=ae 1 HBI.out.heap;refine rd 8 (fun K hK=>?_);go_simp;have o1:=b9 wd gi 0 (.int .i64 3);have o2:=b9 (wd.setCell ⟨gi,0,none⟩ (.int .i64 3)) gi 1 (.int .i64 X);have HBI1:=Hd (HBI.out.cell 0 (.int .i64 3));replace HM:=Hd ((HM.out.beside HBI.out o1).beside HBI1.out o2);replace HT:=Hd ((HT.out.beside o1 hwi).beside o2 hwi);replace HBX:=Hd ((HBX.out.other o1 hne.symm).other o2 hne.symm);replace HBI:=Hd (HBI1.out.cell 1 (.int .i64 X));refine hK.out _ _ ⟨HM.out.c4,ab 1 HBX.out.heap,HLK.out _ _ _ _ HM.out rfl⟩ (fun hH=>?_);clear hK K hH o1 o2 q0 q1 f0 f1 HBI1;generalize (wd.setCell ⟨gi,0,none⟩ (.int .i64 3)).setCell ⟨gi,1,none⟩ (.int .i64 X)=w4 at HM HT HBX HBI⊢;refine wpAnyH_done (by kernel_rfl) ?_ _;have l0:w4.cell? ⟨gi,0,none⟩=some (.int .i64 3):=ab 0 HBI.out.heap;have l1:w4.cell? ⟨gi,1,none⟩=some (.int .i64 X):=ab 1 HBI.out.heap;(go_wp2_with fail);refine (eG HM.out HT.out HBW.out 3 X (by rw [List.length_append];have:=HC.out;have:=HGL.out;omega)).mono ?_;rintro en w9 ⟨rfl,v9,m9,t9,q9⟩;have M9:=Hd m9;have T9:=Hd t9;clear m9 t9 q9 l0 l1;go_wp2_with fail
        go_roundg (n - (j+1))
        case measure=>omega
        case rel=>exact ⟨j+1,v9,uj,by omega,by omega,by go_num,Hd (by rw [HNX.out,HRC.out];exact M9.out),T9⟩
       ·have e1:(k == 1)=false:=by simpa using h1
        have hk:k=2∨k=3∨k=4∨k=5:=by unfold isS at hi;omega
        have q0:w3.cell? ⟨gi,0,none⟩=some (.int .i64 0):=ab 0 HBI.out.heap;have f0:=ae 0 HBI.out.heap;rcases hk with rfl | rfl | rfl | rfl
        ·skip
         clear hi;(go_upto_region 25 with (fail));have oS:=b9 w3 gi 0 (.int .i64 5);replace HM:=Hd (HM.out.beside HBI.out oS);replace HT:=Hd (HT.out.beside oS hwi);replace HBI:=Hd (HBI.out.cell 0 (.int .i64 5));clear oS q0 f0 y0;generalize w3.setCell ⟨gi,0,none⟩ (.int .i64 5)=w4 at HM HT HBI⊢;have l0:w4.cell? ⟨gi,0,none⟩=some (.int .i64 5):=ab 0 HBI.out.heap;have l1:w4.cell? ⟨gi,1,none⟩=some (.int .i64 0):=ab 1 HBI.out.heap;(go_wp2_with fail);refine (eG HM.out HT.out HBW.out 5 0 (by rw [List.length_append];have:=HC.out;have:=HGL.out;omega)).mono ?_;rintro en w9 ⟨rfl,v9,m9,t9,q9⟩;have M9:=Hd m9;have T9:=Hd t9;clear m9 t9 q9 l0 l1;go_wp2_with fail
         go_roundg (n - (j+1))
         case measure=>omega
         case rel=>exact ⟨j+1,v9,uj,by omega,by omega,by go_num,Hd (by rw [HNX.out,HRC.out];exact M9.out),T9⟩
        ·skip
         clear hi;(go_upto_region 25 with (fail));have oS:=b9 w3 gi 0 (.int .i64 6);replace HM:=Hd (HM.out.beside HBI.out oS);replace HT:=Hd (HT.out.beside oS hwi);replace HBI:=Hd (HBI.out.cell 0 (.int .i64 6));clear oS q0 f0 y0;generalize w3.setCell ⟨gi,0,none⟩ (.int .i64 6)=w4 at HM HT HBI⊢;have l0:w4.cell? ⟨gi,0,none⟩=some (.int .i64 6):=ab 0 HBI.out.heap;have l1:w4.cell? ⟨gi,1,none⟩=some (.int .i64 0):=ab 1 HBI.out.heap;(go_wp2_with fail);refine (eG HM.out HT.out HBW.out 6 0 (by rw [List.length_append];have:=HC.out;have:=HGL.out;omega)).mono ?_;rintro en w9 ⟨rfl,v9,m9,t9,q9⟩;have M9:=Hd m9;have T9:=Hd t9;clear m9 t9 q9 l0 l1;go_wp2_with fail
         go_roundg (n - (j+1))
         case measure=>omega
         case rel=>exact ⟨j+1,v9,uj,by omega,by omega,by go_num,Hd (by rw [HNX.out,HRC.out];exact M9.out),T9⟩
        ·skip
         clear hi;(go_upto_region 25 with (fail));have oS:=b9 w3 gi 0 (.int .i64 7);replace HM:=Hd (HM.out.beside HBI.out oS);replace HT:=Hd (HT.out.beside oS hwi);replace HBI:=Hd (HBI.out.cell 0 (.int .i64 7));clear oS q0 f0 y0;generalize w3.setCell ⟨gi,0,none⟩ (.int .i64 7)=w4 at HM HT HBI⊢;have l0:w4.cell? ⟨gi,0,none⟩=some (.int .i64 7):=ab 0 HBI.out.heap;have l1:w4.cell? ⟨gi,1,none⟩=some (.int .i64 0):=ab 1 HBI.out.heap;(go_wp2_with fail);refine (eG HM.out HT.out HBW.out 7 0 (by rw [List.length_append];have:=HC.out;have:=HGL.out;omega)).mono ?_;rintro en w9 ⟨rfl,v9,m9,t9,q9⟩;have M9:=Hd m9;have T9:=Hd t9;clear m9 t9 q9 l0 l1;go_wp2_with fail
         go_roundg (n - (j+1))
         case measure=>omega
         case rel=>exact ⟨j+1,v9,uj,by omega,by omega,by go_num,Hd (by rw [HNX.out,HRC.out];exact M9.out),T9⟩
        ·skip
         clear hi;(go_upto_region 25 with (fail));have oS:=b9 w3 gi 0 (.int .i64 8);replace HM:=Hd (HM.out.beside HBI.out oS);replace HT:=Hd (HT.out.beside oS hwi);replace HBI:=Hd (HBI.out.cell 0 (.int .i64 8));clear oS q0 f0 y0;generalize w3.setCell ⟨gi,0,none⟩ (.int .i64 8)=w4 at HM HT HBI⊢;have l0:w4.cell? ⟨gi,0,none⟩=some (.int .i64 8):=ab 0 HBI.out.heap;have l1:w4.cell? ⟨gi,1,none⟩=some (.int .i64 0):=ab 1 HBI.out.heap;(go_wp2_with fail);refine (eG HM.out HT.out HBW.out 8 0 (by rw [List.length_append];have:=HC.out;have:=HGL.out;omega)).mono ?_;rintro en w9 ⟨rfl,v9,m9,t9,q9⟩;have M9:=Hd m9;have T9:=Hd t9;clear m9 t9 q9 l0 l1;go_wp2_with fail
         go_roundg (n - (j+1))
         case measure=>omega
         case rel=>exact ⟨j+1,v9,uj,by omega,by omega,by go_num,Hd (by rw [HNX.out,HRC.out];exact M9.out),T9⟩
  ·obtain rfl:j=n:=by omega
   have hm:=HM.out;rw [HN.out,List.take_length,← HR.out] at hm;have HMF:=Hd hm;clear hm;(go_wp2_with fail);rw [Exit.noGoto_normal];go_end0;exact ⟨rfl,vj,uj,HMF.out,HT.out⟩
theorem tH (N:Nat) (hN:N≤480):BG N:=by
 induction N using Nat.strongRecOn with
 | _ N ih=>exact qw N hN (fun M hM=>ih M hM (by omega))
end Go.Proofs.YtcebchffcmpfeaaGreat
