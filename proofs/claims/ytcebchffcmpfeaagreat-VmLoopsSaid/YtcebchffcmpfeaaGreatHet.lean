import Derived.Test.YtcebchffcmpfeaaGreatH12t
namespace Go.Proofs.YtcebchffcmpfeaaGreat
set_option linter.unusedVariables false
set_option linter.unusedSimpArgs false
set_option maxRecDepth 100000
set_option maxHeartbeats 16000000
open Go.RowKit Go.Maps
structure Bx (w:World) (g:Nat) (v u:Value) (k:Nat) (o:Obj):Prop where
 heap:w.heap[k]?=some o
 ng:k≠g
 nv:v.ownBlock≠some k
 nu:u.ownBlock≠some k
section
variable {w w':World} {base g k:Nat} {s:MS} {v u v' u':Value} {bl bc:Nat} {o:Obj}
theorem Bx.call (h:Bx w g v u k o) (t:MTo w g v u w' v' u'):Bx w' g v' u' k o:=
 ⟨t.heap h.heap h.ng h.nv h.nu,h.ng,fun e=>by
  rcases t.sv k e with e1 | e1
  ·exact h.nv e1
  ·have:=ak h.heap;omega,fun e=>by
  rcases t.su k e with e1 | e1
  ·exact h.nu e1
  ·have:=ak h.heap;omega⟩
theorem Bx.quiet (h:Bx w g v u k o) (q:Only [] w w'):Bx w' g v u k o:=⟨q.heap h.heap (by simp),h.ng,h.nv,h.nu⟩
theorem Bx.other (h:Bx w g v u k o) {j:Nat} (q:Only [j] w w') (hj:k≠j):Bx w' g v u k o:=⟨q.heap h.heap (by simpa using hj),h.ng,h.nv,h.nu⟩
theorem Bx.new (h:MK w base g s v u bl bc) (o:Obj):Bx (w.alloc o) g v u w.heap.size o:=
 ⟨ag w o,by have:=h.lt;omega,fun e=>by have:=(h.ins.lt e).2;omega,fun e=>by have:=(h.lps.lt e).2;omega⟩
theorem Bx.lt (h:Bx w g v u k o):k < w.heap.size:=ak h.heap
theorem MK.beside (h:MK w base g s v u bl bc) {cs:Array Value} {t:TypeId} {fr:Nat×Nat} (b:Bx w g v u k (.cells cs t fr)) (q:Only [k] w w'):MK w' base g s v u bl bc:=by
 obtain ⟨n1,a1,m1⟩:=h.lmap;obtain ⟨n2,a2,m2⟩:=h.cmap;refine h.kept q (by simpa using b.ng.symm) (fun j hj=>?_) (fun j hj=>?_) (by simpa using m1.ne b.heap) (by simpa using m2.ne b.heap)
 ·rw [List.mem_singleton.1 hj];exact b.nv
 ·rw [List.mem_singleton.1 hj];exact b.nu
theorem MTo.beside {w0:World} {v0 u0:Value} (t:MTo w0 g v0 u0 w v u) (q:Only [k] w w') (hk:w0.heap.size≤k):MTo w0 g v0 u0 w' v u:=
 ⟨t.only.trans q (fun j hj=>.inr (by rw [List.mem_singleton.1 hj];exact hk)),t.sv,t.su⟩
end
def MSb (s:MS) (r:List Ins×List Lp):MS:={s with ins:=s.ins++r.1,lps:=r.2 }
theorem lw (s:MS) (r:List Ins×List Lp):(MSb s r).nv=s.nv:=rfl
theorem ou (s:MS):MSb s ([],s.lps)=s:=by unfold MSb;simp
theorem MSb_b (s:MS) (r q:List Ins×List Lp):MSb (MSb s r) q=MSb s (r.1++q.1,q.2):=by unfold MSb;simp
theorem cA (s:MS) (r:List Ins×List Lp):(MSb s r).ins.length=s.ins.length+r.1.length:=by unfold MSb;simp
theorem MSi_b (s:MS) (l:List Ins) (r:List Ins×List Lp):MSi (MSb s r) l=MSb s (r.1++l,r.2):=by unfold MSb MSi;simp
def BG (N:Nat):Prop:=∀ xs:List St,ah xs≤N→∀ (w:World) (base g:Nat) (s:MS) (v u:Value) (bl bc:Nat) (xv:Value) (B:Nat→Prop),MK w base g s v u bl bc→base≤w.heap.size→s.ins.length+10*ah xs≤200000→s.lps.length+ah xs≤200000→wB xs→gB xs→kR xs→SsV w B xv xs→(∀ b,B b→b < base)→
 Calls Tryz.prog 38 #[.pointer (some ⟨g,0,none⟩),xv] w fun en w'=>en=.returned (.tuple #[])∧∃ v' u',MK w' base g (MSb s (cB s.nv xs s.ins.length s.lps)) v' u' bl bc∧MTo w g v u w' v' u'
def chC (F:Nv) (bd els:List St) (h:Nat) (lp:List Lp):List Ins×List Lp:=
 let b:=cB F bd (h+1) lp
 if els.length=0 then ((13,((h+1+b.1.length:Nat):Int)) :: b.1,b.2)
 else
  let m:=cB F els (h+1+b.1.length+1) b.2
  ((13,((h+1+b.1.length+1:Nat):Int)) :: b.1++(12,((h+1+b.1.length+1+m.1.length:Nat):Int)) :: m.1,m.2)
theorem set_mid {α:Type} (a b:List α) (x y:α):(a++x :: b).set a.length y=a++y :: b:=by
 rw [List.set_append_right _ _ (Nat.le_refl _),Nat.sub_self,List.set_cons_zero]
theorem get_mid {α:Type} (a b:List α) (x:α):(a++x :: b)[a.length]?=some x:=by
 rw [List.getElem?_append_right (Nat.le_refl _),Nat.sub_self,List.getElem?_cons_zero]
theorem qv {w0 w:World} {base g:Nat} {s:MS} {a b:List Ins} {lp:List Lp} {d n:Int} {v0 v u0 u:Value} {bl bc:Nat} (h:MK w base g (MSb s (a++(d,n) :: b,lp)) v u bl bc) (t:MTo w0 g v0 u0 w v u) (k:Nat) (hk:k=s.ins.length+a.length) (hf:s.ins.length+(a.length+(b.length+1))≤400000) :
  Calls Tryz.prog 105 #[.pointer (some ⟨g,0,none⟩),.int .i64 (k:Int)] w fun e w'=>e=.returned (.tuple #[])∧MK w' base g (MSb s (a++(d,((s.ins.length+(a.length+(b.length+1)):Nat):Int)) :: b,lp)) v u bl bc∧MTo w0 g v0 u0 w' v u∧MTo w g v u w' v u:=by
 subst hk;have e1:(MSb s (a++(d,n) :: b,lp)).ins=(s.ins++a)++(d,n) :: b:=by unfold MSb;simp
 have hl:(MSb s (a++(d,n) :: b,lp)).ins.length=s.ins.length+(a.length+(b.length+1)):=by rw [e1];simp
 have hk:(MSb s (a++(d,n) :: b,lp)).ins[s.ins.length+a.length]?=some (d,n):=by
  rw [e1,show s.ins.length+a.length=(s.ins++a).length by simp];exact get_mid _ _ _
 refine (land_any h _ hk (by rw [hl];exact hf)).mono ?_;rintro e w' ⟨rfl,m,t2⟩;refine ⟨rfl,?_,t.trans t2,t2⟩;rw [hl,e1,show s.ins.length+a.length=(s.ins++a).length by simp,set_mid] at m;have e2:({MSb s (a++(d,n) :: b,lp) with ins:=s.ins++a++(d,((s.ins.length+(a.length+(b.length+1)):Nat):Int)) :: b }:MS)=MSb s (a++(d,((s.ins.length+(a.length+(b.length+1)):Nat):Int)) :: b,lp):=by unfold MSb;simp
 rw [← e2];exact m
theorem eG {w0 w:World} {base g:Nat} {s:MS} {r:List Ins×List Lp} {v0 v u0 u:Value} {bl bc:Nat} (h:MK w base g (MSb s r) v u bl bc) (t:MTo w0 g v0 u0 w v u) (hb:base≤w0.heap.size) (d n:Int) (hf:s.ins.length+r.1.length≤400000) :
  Calls Tryz.prog 37 #[.pointer (some ⟨g,0,none⟩),.int .i64 d,.int .i64 n] w fun e w'=>e=.returned (.int .i64 ((s.ins.length+r.1.length:Nat):Int))∧∃ v',MK w' base g (MSb s (r.1++[(d,n)],r.2)) v' u bl bc∧MTo w0 g v0 u0 w' v' u∧MTo w g v u w' v' u:=by
 refine (wv h (by have:=t.only.size;omega) d n (by rw [cA];exact hf)).mono ?_;rintro e w' ⟨rfl,v',h1,h2⟩;refine ⟨by rw [cA],v',?_,t.trans h2,h2⟩;have e0:({MSb s r with ins:=(MSb s r).ins++[(d,n)] }:MS)=MSb s (r.1++[(d,n)],r.2):=by unfold MSb;simp
 rw [← e0];exact h1
theorem km {N:Nat} (IB:BG N) {xs:List St} (hN:ah xs≤N) {w0 w:World} {base g:Nat} {s:MS} {r:List Ins×List Lp} {v0 v u0 u:Value} {bl bc:Nat} (h:MK w base g (MSb s r) v u bl bc) (t:MTo w0 g v0 u0 w v u) (hb:base≤w0.heap.size)
  (hf:s.ins.length+r.1.length+10*ah xs≤200000) (hl:r.2.length+ah xs≤200000) (hw:wB xs) (hg:gB xs) (hfw:kR xs) {xv:Value} {B:Nat→Prop} (hv:SsV w B xv xs) (hB:∀ b,B b→b < base) :
  Calls Tryz.prog 38 #[.pointer (some ⟨g,0,none⟩),xv] w fun en w'=>en=.returned (.tuple #[])∧∃ v' u',MK w' base g (MSb s (r.1++(cB s.nv xs (s.ins.length+r.1.length) r.2).1,(cB s.nv xs (s.ins.length+r.1.length) r.2).2)) v' u' bl bc∧MTo w0 g v0 u0 w' v' u'∧MTo w g v u w' v' u':=by
 refine (IB xs hN w base g _ v u bl bc xv B h (by have:=t.only.size;omega) (by rw [cA];exact hf) hl hw hg hfw hv hB).mono ?_;rintro en w' ⟨rfl,v',u',m,t2⟩;rw [lw,cA,MSb_b] at m;exact ⟨rfl,v',u',m,t.trans t2,t2⟩
theorem tG {N:Nat} (IB:BG N) {w:World} {base g:Nat} {s:MS} {v u:Value} {bl bc:Nat} {k:Int} {nm:Sec} {ys:List E} {nn:Int} {bd els:List St} {p:Int} {cs:List Value} {B:Nat→Prop} (h:MK w base g s v u bl bc) (hb:base≤w.heap.size)
  (h1:ah bd≤N) (h2:ah els≤N) (hf:s.ins.length+10*(1+ah bd+ah els)≤200000) (hl:s.lps.length+(ah bd+ah els)≤200000) (hw1:wB bd) (hw2:wB els) (hg1:gB bd) (hg2:gB els) (hf1:kR bd) (hf2:kR els)
  (hev:SV w B (.mk k nm ys nn bd els p) cs) (hB:∀ b,B b→b < base) :
  Calls Tryz.prog 69 #[.pointer (some ⟨g,0,none⟩),.agg cs.toArray] w fun en w'=>en=.returned (.tuple #[])∧∃ v' u',MK w' base g (MSb s (chC s.nv bd els s.ins.length s.lps)) v' u' bl bc∧MTo w g v u w' v' u':=by
 unfold SV at hev;obtain ⟨va,a1,c1,a2,c2,rfl,⟨a0,c0,rfl,-⟩,hbd,hel⟩:=hev;have hvb:SsV w B (.slice a1 bd.length c1) bd:=⟨a1,c1,rfl,hbd⟩
 have hve:SsV w B (.slice a2 els.length c2) els:=⟨a2,c2,rfl,hel⟩
 obtain ⟨sn,hsn⟩:∃ sn,sn=aj nm:=⟨_,rfl⟩
 obtain ⟨L0,hL0⟩:∃ L,L=ys.length:=⟨_,rfl⟩
 obtain ⟨L1,hL1⟩:∃ L,L=bd.length:=⟨_,rfl⟩
 obtain ⟨L2,hL2⟩:∃ L,L=els.length:=⟨_,rfl⟩
 obtain ⟨R,hR⟩:∃ R,R=MSb s (chC s.nv bd els s.ins.length s.lps):=⟨_,rfl⟩
 rw [← hL1] at hvb;rw [← hL2] at hve;rw [← hsn,← hL0,← hL1,← hL2,← hR];have HR:=Hd hR;have HL2:=Hd hL2;have oA:Only [] w (w.alloc (.cells #[.int .i64 k,.string sn,.slice a0 L0 c0,.int .i64 nn,.slice a1 L1 c1,.slice a2 L2 c2,.int .i64 p] 113)):=(Only.refl _ _).alloc _;have hbx:=Bx.new h (.cells #[.int .i64 k,.string sn,.slice a0 L0 c0,.int .i64 nn,.slice a1 L1 c1,.slice a2 L2 c2,.int .i64 p] 113);obtain ⟨gb,hgb⟩:∃ g,g=w.heap.size:=⟨_,rfl⟩
 rw [← hgb] at hbx;obtain ⟨w1,hw1'⟩:∃ w1,w1=w.alloc (.cells #[.int .i64 k,.string sn,.slice a0 L0 c0,.int .i64 nn,.slice a1 L1 c1,.slice a2 L2 c2,.int .i64 p] 113):=⟨_,rfl⟩
 rw [← hw1'] at oA hbx;have HW1:=Hd hw1';have HGB:=Hd hgb;have HO:=Hd oA;have HM1:=Hd (h.quiet oA);have HM:=Hd (show MK w1 base g (MSb s ([],s.lps)) v u bl bc by rw [ou];exact h.quiet oA);have HT:=Hd (MTo.refl w1 g v u);have HB1:=Hd (show base≤w1.heap.size by have:=oA.size;omega);have HBX:=Hd hbx;have HLN:=Hd (And.intro hf hl);have HVB:=Hd (hvb.quiet oA);have HVE:=Hd (hve.quiet oA);have HWS:=Hd (And.intro (And.intro hw1 hw2) (And.intro (And.intro hg1 hg2) (And.intro hf1 hf2)));have HB:=Hd hB;have hks:=MTo.keeps (w':=w) (v':=v) (u':=u) (h.quiet oA) hB;have HKS:=Hd hks;clear h hb hf hl hw1 hw2 hg1 hg2 hf1 hf2 hbd hel hvb hve hsn hL0 hL1 hL2 hR oA hbx hw1' hgb hB hks
 go_enter Tryz.func69,Tryz.ntmps69
 go_upto_region 1 with (fail)
 rw [← HGB.out,← HW1.out];go_wp2_with fail
 refine (eG HM.out HT.out HB1.out 13 0 (by have:=HLN.out;(try have:=HBL.out);simp only [List.length_append,List.length_cons,List.length_nil];omega)).mono ?_;rintro en w2 ⟨rfl,vv,m9,t9,q9⟩;replace HM:=Hd m9;replace HT:=Hd t9;replace HBX:=Hd (HBX.out.call q9);clear m9 t9 q9;have y4:w2.cell? ⟨gb,4,none⟩=some (.slice a1 L1 c1):=ab 4 HBX.out.heap;go_wp2_with fail
 refine (km IB h1 HM.out HT.out HB1.out (by have:=HLN.out;simp only [List.length_append,List.length_cons,List.length_nil];omega) (by have:=HLN.out;dsimp only;omega) HWS.out.1.1 HWS.out.2.1.1 HWS.out.2.2.1 (SsV.kept HT.out.only HKS.out (fun _ h=>h) HVB.out) HB.out).mono ?_;rintro en w3 ⟨rfl,v3,u3,m3,t3,q3⟩;obtain ⟨b,hbe⟩:∃ b,b=cB s.nv bd (s.ins.length+1) s.lps:=⟨_,rfl⟩
 have hbl:=cF s.nv bd (s.ins.length+1) s.lps;rw [← hbe] at hbl;have HBL:=Hd hbl;replace HM:=Hd (show MK w3 base g (MSb s ([]++(13,0) :: b.1,b.2)) v3 u3 bl bc by rw [hbe];exact m3);replace HT:=Hd t3;replace HBX:=Hd (HBX.out.call q3);have HBE:=Hd hbe;clear m3 t3 q3 y4 hbe hbl;have y5:w3.cell? ⟨gb,5,none⟩=some (.slice a2 L2 c2):=ab 5 HBX.out.heap
 by_cases he:L2=0
 ·have he':((L2:Int) == 0)=true:=by simp [he]
  have hch:R=MSb s ([]++((13:Int),((s.ins.length+(([]:List Ins).length+(b.1.length+1)):Nat):Int)) :: b.1,b.2):=by
   rw [HR.out];unfold chC;dsimp only;rw [← HBE.out,if_pos (by rw [← HL2.out];exact he)];rw [show s.ins.length+1+b.1.length=s.ins.length+(([]:List Ins).length+(b.1.length+1)) by simp;omega];rfl
  have HCH:=Hd hch;clear hch;go_wp2_with fail
  refine (qv HM.out HT.out s.ins.length (by simp) (by have:=HLN.out;have:=HBL.out;simp only [List.length_nil];omega)).mono ?_;rintro en w4 ⟨rfl,m4,t4,q4⟩;have HM4:=Hd m4;have HT4:=Hd t4;clear m4 t4 q4 y5;go_wp2_with fail
  first | go_end0 | ((try simp only [Exit.inBlock,Exit.then]);refine bodyPost_ret (results_none rfl _ _ _) rfl ?_)
  exact ⟨rfl,_,_,by rw [HCH.out];exact HM4.out,MTo.before HO.out HT4.out⟩
 ·have he':((L2:Int) == 0)=false:=by simp;omega
  have y5':=y5;go_wp2_with fail
  refine (eG HM.out HT.out HB1.out 12 0 (by have:=HLN.out;(try have:=HBL.out);simp only [List.length_append,List.length_cons,List.length_nil];omega)).mono ?_;rintro en w4 ⟨rfl,vv,m9,t9,q9⟩;replace HM:=Hd m9;replace HT:=Hd t9;replace HBX:=Hd (HBX.out.call q9);clear m9 t9 q9;replace HM:=Hd (show MK w4 base g (MSb s ([]++(13,0) :: (b.1++[(12,0)]),b.2)) vv u3 bl bc from HM.out);go_wp2_with fail
  refine (qv HM.out HT.out s.ins.length (by simp) (by have:=HLN.out;have:=HBL.out;simp only [List.length_append,List.length_cons,List.length_nil];omega)).mono ?_;rintro en w5 ⟨rfl,m5,t5,q5⟩;replace HM:=Hd m5;replace HT:=Hd t5;replace HBX:=Hd (HBX.out.call q5);clear m5 t5 q5 y5 y5';have y5:w5.cell? ⟨gb,5,none⟩=some (.slice a2 L2 c2):=ab 5 HBX.out.heap;go_wp2_with fail
  refine (km IB h2 HM.out HT.out HB1.out (by have:=HLN.out;have:=HBL.out;simp only [List.length_append,List.length_cons,List.length_nil];omega) (by have:=HLN.out;have:=HBL.out;dsimp only;omega) HWS.out.1.2 HWS.out.2.1.2 HWS.out.2.2.2 (SsV.kept HT.out.only HKS.out (fun _ h=>h) HVE.out) HB.out).mono ?_;rintro en w6 ⟨rfl,v6,u6,m6,t6,q6⟩;obtain ⟨mm,hme⟩:∃ b',b'=cB s.nv els (s.ins.length+1+b.1.length+1) b.2:=⟨_,rfl⟩
  have hml:=cF s.nv els (s.ins.length+1+b.1.length+1) b.2;rw [← hme] at hml;have HML:=Hd hml;obtain ⟨z,hz⟩:∃ z:Nat,z=s.ins.length+(([]:List Ins).length+((b.1++[((12:Int),(0:Int))]).length+1)):=⟨_,rfl⟩
  have hzz:z=s.ins.length+1+b.1.length+1:=by rw [hz];simp;omega
  replace HM:=Hd (show MK w6 base g (MSb s (((13,(z:Int)) :: b.1)++(12,0) :: mm.1,mm.2)) v6 u6 bl bc by
   have e1:s.ins.length+(([]:List Ins)++(13,(z:Int)) :: (b.1++[((12:Int),(0:Int))])).length=s.ins.length+1+b.1.length+1:=by simp;omega
   rw [← hz] at m6;dsimp only at m6;rw [e1,← hme] at m6;have e2:([]++((13:Int),(z:Int)) :: (b.1++[((12:Int),(0:Int))]))++mm.1=(((13:Int),(z:Int)) :: b.1)++(12,0) :: mm.1:=by simp
   rw [e2] at m6
   exact m6)
  replace HT:=Hd t6;have hch:R=MSb s ((((13:Int),(z:Int)) :: b.1)++((12:Int),((s.ins.length+((((13:Int),(z:Int)) :: b.1).length+(mm.1.length+1)):Nat):Int)) :: mm.1,mm.2):=by
   rw [HR.out];unfold chC;dsimp only;rw [← HBE.out,if_neg (by rw [← HL2.out];exact he),← hme,hzz];rw [show s.ins.length+1+b.1.length+1+mm.1.length=s.ins.length+((((13:Int),((s.ins.length+1+b.1.length+1:Nat):Int)) :: b.1).length+(mm.1.length+1)) by simp;omega]
  have HCH:=Hd hch;clear m6 t6 q6 hme hml hz hzz hch y5;go_wp2_with fail
  rw [show ((s.ins.length:Int)+((b.1.length:Int)+1))=((s.ins.length+(b.1.length+1):Nat):Int) by omega];refine (qv HM.out HT.out (s.ins.length+(b.1.length+1)) (by simp) (by have:=HLN.out;have:=HBL.out;have:=HML.out;simp only [List.length_append,List.length_cons,List.length_nil];omega)).mono ?_;rintro en w7 ⟨rfl,m7,t7,q7⟩;have HM7:=Hd m7;have HT7:=Hd t7;clear m7 t7 q7;go_wp2_with fail
  first | go_end0 | ((try simp only [Exit.inBlock,Exit.then]);refine bodyPost_ret (results_none rfl _ _ _) rfl ?_)
  exact ⟨rfl,_,_,by rw [HCH.out];exact HM7.out,MTo.before HO.out HT7.out⟩
end Go.Proofs.YtcebchffcmpfeaaGreat
