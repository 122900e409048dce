import Derived.Test.YtcebchffcmpfeaaGreatHbt
namespace Go.Proofs.YtcebchffcmpfeaaGreat
set_option linter.unusedVariables false
set_option linter.unusedSimpArgs false
set_option maxRecDepth 100000
set_option maxHeartbeats 16000000
open Go.RowKit Go.Maps
def MSi (s:MS) (l:List Ins):MS:={s with ins:=s.ins++l }
theorem MSi_nil (s:MS):MSi s []=s:=by unfold MSi;rw [List.append_nil]
theorem MSi_app (s:MS) (l m:List Ins):MSi (MSi s l) m=MSi s (l++m):=by unfold MSi;simp
theorem MSi_nv (s:MS) (l:List Ins):(MSi s l).nv=s.nv:=rfl
theorem qu (s:MS) (l:List Ins):(MSi s l).ins.length=s.ins.length+l.length:=by unfold MSi;simp
theorem MTo.keeps {w w':World} {base g:Nat} {s:MS} {v u v' u':Value} {bl bc:Nat} (h:MK w base g s v u bl bc) {B:Nat→Prop} (hB:∀ b,B b→b < base):∀ k∈g :: (v.ownBlock.toList++u.ownBlock.toList),¬ B k:=fun k hk hb=>by
 simp only [List.mem_cons,List.mem_append,Option.mem_toList] at hk;have:=hB k hb;rcases hk with rfl | hk | hk
 ·have:=h.gb;omega
 ·have:=(h.ins.lt hk).1;omega
 ·have:=(h.lps.lt hk).1;omega
theorem kh:∀ {xs:List E} {j:Nat} {e:E},gL xs→xs[j]?=some e→gE e
 | [],j,e,_,h=>by simp at h
 | x :: xs,0,e,h,hj=>by unfold gL at h;simp at hj;subst hj;exact h.1
 | x :: xs,j+1,e,h,hj=>by unfold gL at h;exact kh h.2 (by simpa using hj)
theorem lr {w0 w:World} {base g:Nat} {s:MS} {l:List Ins} {v0 v u0 u:Value} {bl bc:Nat} (h:MK w base g (MSi s l) v u bl bc) (t:MTo w0 g v0 u0 w v u) (hb:base≤w0.heap.size) (d n:Int) (hf:s.ins.length+l.length≤400000) :
  Calls Tryz.prog 37 #[.pointer (some ⟨g,0,none⟩),.int .i64 d,.int .i64 n] w fun e w'=>e=.returned (.int .i64 ((s.ins.length+l.length:Nat):Int))∧∃ v',MK w' base g (MSi s (l++[(d,n)])) v' u bl bc∧MTo w0 g v0 u0 w' v' u:=by
 refine (wv h (by have:=t.only.size;omega) d n (by rw [qu];exact hf)).mono ?_;rintro e w' ⟨rfl,v',h1,h2⟩;refine ⟨by rw [qu],v',?_,t.trans h2⟩;have e0:({MSi s l with ins:=(MSi s l).ins++[(d,n)] }:MS)=MSi s (l++[(d,n)]):=by unfold MSi;simp
 rw [← e0];exact h1
def XG (N:Nat):Prop:=∀ e:E,aC e≤N→∀ (w:World) (base g:Nat) (s:MS) (v u:Value) (bl bc:Nat) (cs:List Value) (B:Nat→Prop),MK w base g s v u bl bc→base≤w.heap.size→s.ins.length+aC e≤300000→wE e→gE e→EV w B e cs→(∀ b,B b→b < base)→
 Calls Tryz.prog 36 #[.pointer (some ⟨g,0,none⟩),.agg cs.toArray] w fun en w'=>en=.returned (.tuple #[])∧∃ v',MK w' base g (MSi s (gx s.nv e)) v' u bl bc∧MTo w g v u w' v' u
theorem tF (N:Nat) (hN4:N+1≤480) (IH:XG N):XG (N+1):=by
 intro e hN w base g s v u bl bc cs B h hb hf hw hg hev hB;have HH:=Hd h;have HW:=Hd hw;have HEV:=Hd hev;obtain ⟨RV,hRV⟩:∃ V:Int,V=(if mg e=true then exV blankP (bJ []) e else 0):=⟨_,rfl⟩
 obtain ⟨RT,hRT⟩:∃ V:Bool,V=mg e:=⟨_,rfl⟩
 have hKF:=fun (w':World) (o:Only [] w w')=>tE (hev.quiet o) hw hg (by omega);rw [← hRV,← hRT] at hKF;have HKF:=Hd hKF;have HRV:=Hd hRV;have HRT:=Hd hRT;obtain ⟨k,num,nm,ys,p⟩:=e;have hsz:aq ys≤N:=by unfold aC at hN;omega
 have hfl:s.ins.length+(1+aq ys)≤300000:=by unfold aC at hf;omega
 unfold wE at hw;obtain ⟨hi,hnm,hwl⟩:=hw;unfold gE at hg;obtain ⟨-,hgl⟩:=hg;unfold EV at hev;obtain ⟨a,cap,rfl,hcap,hx⟩:=hev;obtain ⟨sn,hsn⟩:∃ sn,sn=aj nm:=⟨_,rfl⟩
 obtain ⟨L,hL⟩:∃ L,L=ys.length:=⟨_,rfl⟩
 have hLb:L≤480:=by have:=dh ys;omega
 rw [← hsn,← hL] at HKF HEV;rw [← hsn,← hL];have HX:=Hd hx;have HL:=Hd hL;have HSN:=Hd hsn;have HNM:=Hd hnm;have HI:=Hd hi;have HWL:=Hd hwl;have HGL:=Hd hgl;have HB:=Hd hB;have oA:Only [] w (w.alloc (.cells #[.int .i64 k,.int .i64 num,.string sn,.slice a L cap,.int .i64 p] 95)):=(Only.refl _ _).alloc _;have hA:=ag w (.cells #[.int .i64 k,.int .i64 num,.string sn,.slice a L cap,.int .i64 p] 95);obtain ⟨gb,hgb⟩:∃ g,g=w.heap.size:=⟨_,rfl⟩
 rw [← hgb] at hA;obtain ⟨w1,hw1⟩:∃ w1,w1=w.alloc (.cells #[.int .i64 k,.int .i64 num,.string sn,.slice a L cap,.int .i64 p] 95):=⟨_,rfl⟩
 rw [← hw1] at oA hA;have HW1:=Hd hw1;have HGB:=Hd hgb;have HBW:=Hd (show base≤w.heap.size from hb);have hn1:gb≠g:=by have:=h.lt;omega
 have hn2:v.ownBlock≠some gb:=fun e=>by have:=(h.ins.lt e).2;omega
 have hn3:u.ownBlock≠some gb:=fun e=>by have:=(h.lps.lt e).2;omega
 have HN123:=Hd (And.intro hn1 (And.intro hn2 hn3));have HO:=Hd oA;have HY:=Hd hA;have x0:w1.cell? ⟨gb,0,none⟩=some (.int .i64 k):=ab 0 hA;have x1:w1.cell? ⟨gb,1,none⟩=some (.int .i64 num):=ab 1 hA;have x2:w1.cell? ⟨gb,2,none⟩=some (.string sn):=ab 2 hA;have x3:w1.cell? ⟨gb,3,none⟩=some (.slice a L cap):=ab 3 hA;have x4:w1.cell? ⟨gb,4,none⟩=some (.int .i64 p):=ab 4 hA;clear h hx hsn hL hnm hi hwl hgl hB hRV hRT hKF oA hA hw1 hgb hb hn1 hn2 hn3 hN hf
 go_enter Tryz.func36,Tryz.ntmps36
 go_upto_region 1 with (fail)
 rw [← HGB.out,← HW1.out];go_wp2_with fail
 refine (HKF.out w1 HO.out).mono ?_;rintro en w2 ⟨rfl,o2⟩;replace HO:=Hd (HO.out.trans o2 (by simp));replace HY:=Hd (o2.heap HY.out (by simp));clear x0 x1 x2 x3 x4 o2 HKF;have HM0:=Hd (show MK w2 base g (MSi s []) v u bl bc by rw [MSi_nil];exact HH.out.quiet HO.out);have HT0:=Hd (MTo.refl w2 g v u);have HB2:=Hd (show base≤w2.heap.size by have:=HBW.out;have:=HO.out.size;omega);have HG2:=Hd (ak HY.out);have HM2:=Hd (HH.out.quiet HO.out);cases RT with
 | true=>
  have hrv:=HRV.out;rw [← HRT.out,if_pos rfl] at hrv
  have HRES:=Hd (show MSi s (gx s.nv (.mk k num nm ys p))=MSi s ([]++[((1:Int),RV)]) by
   unfold gx;rw [if_pos HRT.out.symm,hrv]
   rfl)
  have HM:=HM0;have HT:=HT0;have HLN:Hid (s.ins.length+([]:List Ins).length≤400000):=Hd (by simp;omega);clear hrv;go_wp2_with fail
  refine (lr HM.out HT.out HB2.out 1 RV HLN.out).mono ?_;rintro en w9 ⟨rfl,v9,m9,t9⟩;have M9:=Hd m9;have T9:=Hd t9;clear m9 t9;go_wp2_with fail
  first | go_end0 | ((try simp only [Exit.inBlock,Exit.then]);refine bodyPost_ret (results_none rfl _ _ _) rfl ?_)
  exact ⟨rfl,v9,by rw [HRES.out];exact M9.out,MTo.before HO.out T9.out⟩
 | false=>
  have HFX:=Hd (show mg (.mk k num nm ys p)=false from HRT.out.symm);clear HRV HRT;have x3:w2.cell? ⟨gb,3,none⟩=some (.slice a L cap):=ab 3 HY.out;go_wp2_with fail
  clear x3
  go_loopw [20] (fun ix wr=>∃ (j:Nat) (vj:Value),j≤L∧ix=.int .i64 (j:Int)∧Hid (MK wr base g (MSi s (cM s.nv (ys.take j))) vj u bl bc)∧Hid (MTo w2 g v u wr vj u)∧Hid (wr.heap[gb]?=some (.cells #[.int .i64 k,.int .i64 num,.string sn,.slice a L cap,.int .i64 p] 95 (0,0)))) (fun ix _=>L - (intOf ix).toNat)
  case atStart=>exact ⟨0,v,Nat.zero_le _,rfl,Hd (by rw [List.take_zero,eV];exact HM0.out),HT0,HY⟩
  case round=>
   obtain ⟨j,vj,hjn,rfl,HM,HT,HYr⟩:=hrel
   by_cases hlt:j < L
   ·have hlt':(j:Int) < (L:Int):=by omega
    have j0:(0:Int)≤(j:Int):=by omega
    obtain ⟨e,he⟩:∃ e,ys[j]?=some e:=⟨_,List.getElem?_eq_getElem (by rw [← HL.out];exact hlt)⟩
    obtain ⟨gr,rfl,hgr,hes⟩:∃ gr,a=some ⟨gr,0,none⟩∧B gr∧EsO w B gr 0 ys:=by
     rcases HX.out with hx | ⟨gr,h1,h2,h3⟩
     ·rw [hx] at he;simp at he
     ·exact ⟨gr,h1,h2,EsAt.eso ys 0 0 rfl h3⟩
    obtain ⟨k1,n1,sn1,a1,l1,c1,p1,hev1,hat1⟩:=hes.at5 he;have hks:=MTo.keeps (w':=w) (v':=v) (u':=u) HM2.out HB.out;have hat:=(hat1.kept HO.out (by simp)).kept HT.out.only (fun hh=>hks gr hh hgr);have z0:=hat.c0;have z1:=hat.c1;have z2:=hat.c2;have z3:=hat.c3;have z4:=hat.c4;have hev3:EV wr B e _:=EV.kept HT.out.only hks (fun _ h=>h) e _ (hev1.quiet HO.out);have HEVj:=Hd hev3;have HSE:=Hd (di he);have HGT:=Hd (nH s.nv he);have HSL:=Hd (And.intro (ce he) (bj ys (j+1)));have HGN:=Hd (dX s.nv (ys.take j));have HWE:=Hd (And.intro (jy HWL.out he) (kh HGL.out he));clear he hes hev1 hat1 hat hev3 hlt hks;(go_upto_region 7 with (fail));obtain ⟨w5,q9,o5,hY5,-⟩:=nb wr (.cells #[.int .i64 k1,.int .i64 n1,.string sn1,.slice a1 l1 c1,.int .i64 p1] 95);rw [← q9];clear q9;have x0:w5.cell? ⟨wr.heap.size,0,none⟩=some (.int .i64 k1):=ab 0 hY5;have x1:w5.cell? ⟨wr.heap.size,1,none⟩=some (.int .i64 n1):=ab 1 hY5;have x2:w5.cell? ⟨wr.heap.size,2,none⟩=some (.string sn1):=ab 2 hY5;have x3:w5.cell? ⟨wr.heap.size,3,none⟩=some (.slice a1 l1 c1):=ab 3 hY5;have x4:w5.cell? ⟨wr.heap.size,4,none⟩=some (.int .i64 p1):=ab 4 hY5;have K1:=IH e (Nat.le_trans HSE.out hsz) w5 base g _ _ u bl bc _ B (HM.out.quiet o5) (by have:=HB2.out;have:=HT.out.only.size;have:=o5.size;omega) (by rw [qu];have:=HSE.out;have:=HSL.out;have:=HGN.out;omega) HWE.out.1 HWE.out.2 (HEVj.out.quiet o5) HB.out;have HT5:=Hd (HT.out.quiet o5);have HY5:=Hd (o5.heap HYr.out (by simp));clear o5 hY5 z0 z1 z2 z3 z4;(go_wp2_with fail);refine K1.mono ?_;rintro en w6 ⟨rfl,v6,m6,t6⟩;rw [MSi_nv,MSi_app,← HGT.out] at m6;have HT6:=Hd (HT5.out.trans t6);have HM6:=Hd m6
    have HY6:=Hd (show w6.heap[gb]?=_ from t6.heap HY5.out HN123.out.1 (fun e=>by
     rcases HT5.out.sv gb e with e1 | e1
     ·exact HN123.out.2.1 e1
     ·have:=HG2.out;omega) HN123.out.2.2)
    clear m6 t6 K1 x0 x1 x2 x3 x4;(go_wp2_with fail);refine ⟨⟨j+1,v6,by omega,by simp,HM6,HT6,HY6⟩,?_⟩;simp [intOf];omega
   ·obtain rfl:j=L:=by omega
    have hm:=HM.out;rw [HL.out,List.take_length] at hm;have HLN:=Hd (show s.ins.length+(cM s.nv ys).length≤400000 by have:=dX s.nv ys;omega);replace HM:=Hd hm;clear hm;generalize wr=wq at HM HT HYr⊢;have y0:wq.cell? ⟨gb,0,none⟩=some (.int .i64 k):=ab 0 HYr.out;have y2:wq.cell? ⟨gb,2,none⟩=some (.string sn):=ab 2 HYr.out;have hi:=HI.out
    by_cases h2:k=2
    ·subst h2;obtain rfl:ys=[]:=List.eq_nil_of_length_eq_zero (by unfold isE at hi;omega)
     have HRES:=Hd (show MSi s (gx s.nv (.mk 2 num nm [] p))=MSi s (cM s.nv []++[((2:Int),s.nv.lc nm)]) by
      unfold gx;rw [if_neg (by rw [HFX.out];decide),if_pos rfl,eV]
      rfl)
     obtain ⟨X,hX⟩:∃ X,X=s.nv.lc nm:=⟨_,rfl⟩
     rw [← hX] at HRES;have HXX:=Hd hX;clear hi hX;(go_upto_region 11 with (fail));have oD:Only [] wq wq.drew:=(Only.refl [] wq).drew;have hlk:∀ w',Only [] wq w'→(Instr.lookup 90 (.map (some bl)) (.string sn) false).run Tryz.prog w'=.ok (.int .i64 X) w':=fun w' o=>by
      obtain ⟨n0,-,hm⟩:=HM.out.lmap;have:=(hm.kept o (by simp)).look1 Tryz.underlying90 Tryz.underlying3 cC HNM.out;rw [← HSN.out] at this;rw [HXX.out];exact this
     refine wp_region_held_drew (S:=fun w'=>w'.cell? ⟨g,4,none⟩=some (.map (some bl))∧w'.cell? ⟨gb,2,none⟩=some (.string sn)∧(Instr.lookup 90 (.map (some bl)) (.string sn) false).run Tryz.prog w'=.ok (.int .i64 X) w') (by kernel_rfl) ⟨(HM.out.quiet oD).c4,ac oD y2 (by simp),hlk _ oD⟩ (fun hH=>?_);replace HT:=Hd (HT.out.quiet oD);replace HM:=Hd (HM.out.quiet oD);clear oD hlk y0 y2;generalize wq.drew=wd at HT HM hH⊢;refine tk 0 hH ?_;refine tk 1 hH ?_;refine tk 2 hH ?_;refine tk 3 hH ?_;refine tk 4 hH ?_;refine tk 5 hH ?_;refine tk 6 hH ?_;refine tk 7 hH ?_;refine rd 8 (fun K hK=>?_);go_simp;refine (lr HM.out HT.out HB2.out 2 X HLN.out).mono ?_;rintro en w9 ⟨rfl,v9,m9,t9⟩;have M9:=Hd m9;have T9:=Hd t9;clear m9 t9;have hY9:w9.heap[gb]?=_:=T9.out.heap HY.out HN123.out.1 HN123.out.2.1 HN123.out.2.2;have hlk9:(Instr.lookup 90 (.map (some bl)) (.string sn) false).run Tryz.prog w9=.ok (.int .i64 X) w9:=by
      obtain ⟨n0,-,hm⟩:=M9.out.lmap;have:=hm.look1 Tryz.underlying90 Tryz.underlying3 cC HNM.out;rw [← HSN.out] at this;rw [HXX.out];exact this
     refine hK.out _ _ ⟨M9.out.c4,ab 2 hY9,hlk9⟩ (fun hH=>?_);clear hK K hY9 hlk9;refine wpAnyH_done (by kernel_rfl) ?_ _;clear hH;(go_wp2_with fail);(first | go_end0 | ((try simp only [Exit.inBlock,Exit.then]);refine bodyPost_ret (results_none rfl _ _ _) rfl ?_));exact ⟨rfl,v9,by rw [HRES.out];exact M9.out,MTo.before HO.out T9.out⟩
    ·have e2:(k == 2)=false:=by simpa using h2
     by_cases h3:k=3
     ·subst h3
      have HRES:=Hd (show MSi s (gx s.nv (.mk 3 num nm ys p))=MSi s (cM s.nv ys++[(4,0)]) by
       unfold gx;rw [if_neg (by rw [HFX.out];decide),if_neg (by decide)]
       rfl)
      clear hi h2;(go_wp2_with fail);refine (lr HM.out HT.out HB2.out 4 0 HLN.out).mono ?_;rintro en w9 ⟨rfl,v9,m9,t9⟩;have M9:=Hd m9;have T9:=Hd t9;clear m9 t9;(go_wp2_with fail);(first | go_end0 | ((try simp only [Exit.inBlock,Exit.then]);refine bodyPost_ret (results_none rfl _ _ _) rfl ?_));exact ⟨rfl,v9,by rw [HRES.out];exact M9.out,MTo.before HO.out T9.out⟩
     ·have e3:(k == 3)=false:=by simpa using h3
      by_cases h4:k=4
      ·subst h4
       have HRES:=Hd (show MSi s (gx s.nv (.mk 4 num nm ys p))=MSi s (cM s.nv ys++[(11,0)]) by
        unfold gx;rw [if_neg (by rw [HFX.out];decide),if_neg (by decide)]
        rfl)
       clear hi h2 h3;(go_wp2_with fail);refine (lr HM.out HT.out HB2.out 11 0 HLN.out).mono ?_;rintro en w9 ⟨rfl,v9,m9,t9⟩;have M9:=Hd m9;have T9:=Hd t9;clear m9 t9;(go_wp2_with fail);(first | go_end0 | ((try simp only [Exit.inBlock,Exit.then]);refine bodyPost_ret (results_none rfl _ _ _) rfl ?_));exact ⟨rfl,v9,by rw [HRES.out];exact M9.out,MTo.before HO.out T9.out⟩
      ·have e4:(k == 4)=false:=by simpa using h4
       by_cases h5:k=5
       ·subst h5
        have HRES:=Hd (show MSi s (gx s.nv (.mk 5 num nm ys p))=MSi s (cM s.nv ys++[(10,0)]) by
         unfold gx;rw [if_neg (by rw [HFX.out];decide),if_neg (by decide)]
         rfl)
        clear hi h2 h3 h4;(go_wp2_with fail);refine (lr HM.out HT.out HB2.out 10 0 HLN.out).mono ?_;rintro en w9 ⟨rfl,v9,m9,t9⟩;have M9:=Hd m9;have T9:=Hd t9;clear m9 t9;(go_wp2_with fail);(first | go_end0 | ((try simp only [Exit.inBlock,Exit.then]);refine bodyPost_ret (results_none rfl _ _ _) rfl ?_));exact ⟨rfl,v9,by rw [HRES.out];exact M9.out,MTo.before HO.out T9.out⟩
       ·have e5:(k == 5)=false:=by simpa using h5
        by_cases h6:k=6
        ·subst h6;have hop:=jG (show (opr nm).2≠0 by unfold isE at hi;omega);have hsd:sn.data.toList=nm:=by rw [HSN.out];simp [aj]
         rw [← hsd] at hop;have hKO:=fun w=>iG sn w hop;rw [hsd] at hKO;obtain ⟨X,hX⟩:∃ X,X=opN nm:=⟨_,rfl⟩
         rw [← hX] at hKO;have HKO:=Hd hKO
         have HRES:=Hd (show MSi s (gx s.nv (.mk 6 num nm ys p))=MSi s (cM s.nv ys++[((9:Int),X)]) by
          unfold gx;rw [if_neg (by rw [HFX.out];decide),if_neg (by decide),hX]
          rfl)
         clear hi h2 h3 h4 h5 hop hsd hKO hX;(go_wp2_with fail);refine (HKO.out _).mono ?_;rintro en w8 ⟨rfl,rfl⟩;(go_wp2_with fail);refine (lr HM.out HT.out HB2.out 9 X HLN.out).mono ?_;rintro en w9 ⟨rfl,v9,m9,t9⟩;have M9:=Hd m9;have T9:=Hd t9;clear m9 t9;(go_wp2_with fail);(first | go_end0 | ((try simp only [Exit.inBlock,Exit.then]);refine bodyPost_ret (results_none rfl _ _ _) rfl ?_));exact ⟨rfl,v9,by rw [HRES.out];exact M9.out,MTo.before HO.out T9.out⟩
        ·exfalso;have hf:=HFX.out;have h1:k=1:=by unfold isE at hi;omega
         obtain rfl:ys=[]:=List.eq_nil_of_length_eq_zero (by unfold isE at hi;omega);unfold mg at hf;rw [if_neg h3,if_neg h2] at hf;unfold fixL at hf;cases hf
theorem gP:∀ N,N≤480→XG N
 | 0,_=>fun e he=>by cases e;unfold aC at he;omega
 | N+1,h=>tF N h (gP N (by omega))
end Go.Proofs.YtcebchffcmpfeaaGreat
