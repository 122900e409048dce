import Derived.Test.YtcebchffcmpfeaaGreatG6t
namespace Go.Proofs.YtcebchffcmpfeaaGreat
set_option linter.unusedVariables false
set_option linter.unusedSimpArgs false
set_option maxRecDepth 100000
set_option maxHeartbeats 16000000
open Go.RowKit Go.Maps
theorem eK (tmps:Array Value) (w:World) (g:Nat) (v0 v1 v2 v3 v4 z:Value) (h6:tmps.getD 8 undef=.pointer (some ⟨g,0,none⟩)) (h7:tmps.getD 9 undef=z) (h:w.heap[g]?=some (.cells #[v0,v1,v2,v3,v4] 95 (0,0))) :
  (results Tryz.f60 tmps).run Tryz.prog w=.ok (.tuple #[.agg #[v0,v1,v2,v3,v4],z]) w:=by
 have hl:=jm w g v0 v1 v2 v3 v4 h;have h6':tmps[8]?.getD undef=.pointer (some ⟨g,0,none⟩):=by simpa using h6
 have h7':tmps[9]?.getD undef=z:=by simpa using h7
 simp [results,Tryz.results60,asAddr,h6',h7',hl]
def uM (ts:List Tok) (f least dp:Nat) (r:Except Nat (E×Nat)):Except Nat (E×Nat):=match r with | .error k=>.error k | .ok x=>dl ts f x.1 x.2 least 5 dp
theorem se (ts:List Tok) (f i least dp:Nat):cT ts (f+1) i least dp=uM ts f least dp (bL ts f i dp):=by
 unfold cT uM;cases bL ts f i dp<;>rfl
def lS (ts:List Tok) (f:Nat) (l:E) (x:Sec) (p:Int) (least most dp:Nat) (r:Except Nat (E×Nat)):Except Nat (E×Nat):=match r with | .error k=>.error k | .ok y=>dl ts f (.mk 6 0 x [l,y.1] p) y.2 least most dp
theorem sf (ts:List Tok) (f:Nat) (l:E) (i least most dp:Nat) (h:kAt ts i=3∧¬ (lvl (xAt ts i) < least∨most < lvl (xAt ts i)∨lvl (xAt ts i)=0)) :
  dl ts (f+1) l i least most dp=lS ts f l (xAt ts i) (pAt ts i) least (if lvl (xAt ts i)=3 then 2 else lvl (xAt ts i)) dp (cT ts f (i+1) (lvl (xAt ts i)+1) dp):=by
 unfold dl;rw [if_pos h];unfold lS;cases cT ts f (i+1) (lvl (xAt ts i)+1) dp<;>rfl
theorem mT {ts:List Tok} {j:Nat} (hj:j < ts.length) {r:Except Nat (E×Nat)} (h:Adv ts (j+1) r) :
  (if intOf (.int .i64 (zR r)) < 0 then 0 else ts.length+1 - (intOf (.int .i64 (zR r))).toNat) < if intOf (.int .i64 (j:Int)) < 0 then 0 else ts.length+1 - (intOf (.int .i64 (j:Int))).toNat:=by
 have e1:intOf (.int .i64 (j:Int))=(j:Int):=rfl;rw [e1,if_neg (show ¬ (j:Int) < 0 by omega)];cases r with
 | error k=>
  have e2:intOf (.int .i64 (zR (.error k:Except Nat (E×Nat))))=-1 - (k:Int):=rfl;rw [e2,if_pos (show -1 - (k:Int) < 0 by omega)];omega
 | ok y=>
  obtain ⟨t2,b2⟩:=y;have hb:j+1 < b2∧b2 < ts.length:=h;have e2:intOf (.int .i64 (zR (.ok (t2,b2):Except Nat (E×Nat))))=(b2:Int):=rfl;rw [e2,if_neg (show ¬ (b2:Int) < 0 by omega)];omega
theorem uN {P:Program} {f:FuncId} {args:Array Value} {w:World} {A:Obj} {Q:Ending→World→Prop} (h:∀ w3,w3.heap[w.heap.size]?=some A→Only [] w w3→Calls P f args w3 Q):Calls P f args (w.alloc A) Q:=
 h _ (ag w A) ((Only.refl [] w).alloc _)
structure LI (ts:List Tok) (w:World) (R:Except Nat (E×Nat)) (least dp f gR g10:Nat) (wr:World) (z mo:Int):Prop where
 only:Only [] w wr
 res:wr.heap[gR]?=some (.cells #[.int .i64 0,.int .i64 0,.string ⟨#[]⟩,.slice none 0 0,.int .i64 0] 95 (0,0))
 left:∃ (k n:Int) (s:ByteArray) (a:Option Addr) (l c:Nat) (p:Int),wr.heap[g10]?=some (.cells #[.int .i64 k,.int .i64 n,.string s,.slice a l c,.int .i64 p] 95 (0,0))∧
  ((∃ (f' i m:Nat) (t:E),z=(i:Int)∧mo=(m:Int)∧m≤5∧i < ts.length∧3*(ts.length - i)+1≤f'∧f'≤f∧R=dl ts f' t i least m dp∧
    EV wr (fun b=>w.heap.size≤b∧b≠gR∧b≠g10) t [.int .i64 k,.int .i64 n,.string s,.slice a l c,.int .i64 p])∨
   (∃ i:Nat,z=-1 - (i:Int)∧R=.error i))
section
variable {w w':World} {v:Value} {ts:List Tok}
theorem sg (f:Nat) (IS:qU ts f) (IE:∀ g,g < f→ExprC ts g):ExprC ts (f+1):=by
 intro w v i least dp h hi hf hle hdp;obtain ⟨a,cap,rfl⟩:=h.shape;have hlen:=h.len;have H:=Hd h;have i0:(0:Int)≤(i:Int):=by omega
 obtain ⟨R,hR⟩:∃ R,R=cT ts (f+1) i least dp:=⟨_,rfl⟩
 rw [← hR];have KS:=IS (w.alloc (.cells #[.int .i64 0,.int .i64 0,.string ⟨#[]⟩,.slice none 0 0,.int .i64 0] 95)) _ i dp (h.quiet ((Only.refl [] w).alloc _)) hi (by omega) hdp;obtain ⟨r,hr⟩:∃ r,r=bL ts f i dp:=⟨_,rfl⟩
 have hRR:R=uM ts f least dp r:=by
  rw [hR,hr];exact se ts f i least dp
 have had:Adv ts i r:=by rw [hr];exact (bi h.ends f).2.2.1 i dp hi
 rw [← hr] at KS;have HRR:=Hd hRR;have HAD:=Hd had;clear h hR hr hRR had
 go_enter Tryz.func60,Tryz.ntmps60
 go_wp2_with fail
 refine KS.mono ?_;rintro e w2 ⟨k',n',s',a',l',c',p',rfl,hv,o2⟩;have hsz:(w.alloc (.cells #[.int .i64 0,.int .i64 0,.string ⟨#[]⟩,.slice none 0 0,.int .i64 0] 95)).heap.size=w.heap.size+1:=Array.size_push _;have hA2:=o2.heap (ag w (.cells #[.int .i64 0,.int .i64 0,.string ⟨#[]⟩,.slice none 0 0,.int .i64 0] 95)) (by simp);have hz2:=o2.size;have li:LI ts w R least dp f w.heap.size w2.heap.size (w2.alloc (.cells #[.int .i64 k',.int .i64 n',.string s',.slice a' l' c',.int .i64 p'] 95)) (zR r) 5:=by
  refine ⟨(((Only.refl [] w).alloc _).trans o2 (by simp)).alloc _,ax _ hA2,k',n',s',a',l',c',p',ag w2 _,?_⟩;cases r with
  | error k=>exact .inr ⟨k,rfl,HRR.out⟩
  | ok x=>
   obtain ⟨t,b⟩:=x;have hb:i < b∧b < ts.length:=HAD.out;refine .inl ⟨f,b,5,t,rfl,rfl,by omega,hb.2,by omega,Nat.le_refl _,HRR.out,?_⟩;refine EV.kept (S:=[]) ((Only.refl [] w2).alloc _) (by simp) (fun c hc=>?_) t _ (EV.lt t _ (hv t b rfl));obtain ⟨hc1,hc2⟩:=hc;rw [hsz] at hc1;exact ⟨by omega,by omega,by omega⟩
 have h10:w.heap.size+1≤w2.heap.size:=by omega
 have LI0:=Hd li;clear li hv hA2 hz2 KS HAD o2;go_wp2_with fail
 generalize hg10:w2.heap.size=g10 at LI0 h10⊢;generalize w2.alloc (.cells #[.int .i64 k',.int .i64 n',.string s',.slice a' l' c',.int .i64 p'] 95)=w3 at LI0⊢;clear hg10 hsz
 go_loopw [1,11] (fun at_ mo wr=>∃ z m:Int,at_=.int .i64 z∧mo=.int .i64 m∧Hid (LI ts w R least dp f w.heap.size g10 wr z m)) (fun at_ _ _=>if intOf at_ < 0 then 0 else ts.length+1 - (intOf at_).toNat)
 case atStart=>exact ⟨zR r,5,rfl,rfl,LI0⟩
 case round=>
  clear LI0;obtain ⟨z,mo,rfl,rfl,L⟩:=hrel;obtain ⟨k1,n1,s1,a1,l1,c1,p1,hB,hcase⟩:=L.out.left;have b0:wr.cell? ⟨g10,0,none⟩=some (.int .i64 k1):=ab 0 hB;have b1:wr.cell? ⟨g10,1,none⟩=some (.int .i64 n1):=ab 1 hB;have b2:wr.cell? ⟨g10,2,none⟩=some (.string s1):=ab 2 hB;have b3:wr.cell? ⟨g10,3,none⟩=some (.slice a1 l1 c1):=ab 3 hB;have b4:wr.cell? ⟨g10,4,none⟩=some (.int .i64 p1):=ab 4 hB;have hRz:=L.out.res;have s0:wr.cell? ⟨w.heap.size,0,none⟩=some (.int .i64 0):=ab 0 hRz;have s1':wr.cell? ⟨w.heap.size,1,none⟩=some (.int .i64 0):=ab 1 hRz;have s2:wr.cell? ⟨w.heap.size,2,none⟩=some (.string ⟨#[]⟩):=ab 2 hRz;have s3:wr.cell? ⟨w.heap.size,3,none⟩=some (.slice none 0 0):=ab 3 hRz;have s4:wr.cell? ⟨w.heap.size,4,none⟩=some (.int .i64 0):=ab 4 hRz;have gs0:=ae 0 hRz;have gs1:=ae 1 hRz;have gs2:=ae 2 hRz;have gs3:=ae 3 hRz;have gs4:=ae 4 hRz;have HB:=Hd hB;have HRz:=Hd hRz;clear hB hRz;rcases hcase with ⟨f',j,m,t,rfl,rfl,hm,hj,hf1,hf2,hRj,hv⟩ | ⟨j,hz,hRe⟩
  ·obtain ⟨f2,rfl⟩:∃ f2,f'=f2+1:=⟨f' - 1,by omega⟩
   have HV:=Hd hv;have HRj:=Hd hRj;obtain ⟨b,cap',hsl,c0,c1',c2⟩:=(H.out.quiet L.out.only).at_ hj;cases hsl;obtain ⟨kk,hkk⟩:∃ kk,kk=kAt ts j:=⟨_,rfl⟩
   obtain ⟨S,hS⟩:∃ S,S=aj (xAt ts j):=⟨_,rfl⟩
   obtain ⟨ps,hps⟩:∃ ps,ps=pAt ts j:=⟨_,rfl⟩
   rw [← hkk] at c0;rw [← hS] at c1';rw [← hps] at c2;have HT:=Hd (And.intro hkk (And.intro hS hps));have j0:(0:Int)≤(j:Int):=by omega
   have j1:(j:Int) < (ts.length:Int):=by omega
   clear hv hRj hkk hS hps
   by_cases hk3:kk=3
   ·subst hk3;have KL:=r9 S wr;rw [show S.data.toList=xAt ts j by rw [HT.out.2.1];simp [aj]] at KL;obtain ⟨lv,hlv⟩:∃ lv,lv=lvl (xAt ts j):=⟨_,rfl⟩
    rw [← hlv] at KL;have hlv5:lv≤5:=by
     rw [hlv];unfold lvl
     repeat' split
     all_goals omega
    have HLV:=Hd hlv;clear hlv;(go_wp2_with fail);refine KL.mono ?_;rintro e w' ⟨rfl,rfl⟩
    by_cases hst:lv < least∨m < lv∨lv=0
    ·have hRR:R=.ok (t,j):=by
      rw [HRj.out];unfold dl;rw [← HLV.out,if_neg (fun e=>e.2 hst)]
     have HRR2:=Hd hRR;clear hRR KL;have HV2:=Hd (And.intro HV.out L.out.only);clear HV
     by_cases d1:lv < least
     ·have d1':(lv:Int) < (least:Int):=by omega
      clear hst;(go_wp2_with fail);have ob:Only [w.heap.size] wr (((((wr.setCell ⟨w.heap.size,0,none⟩ (.int .i64 k1)).setCell ⟨w.heap.size,1,none⟩ (.int .i64 n1)).setCell ⟨w.heap.size,2,none⟩ (.string s1)).setCell ⟨w.heap.size,3,none⟩ (.slice a1 l1 c1)).setCell ⟨w.heap.size,4,none⟩ (.int .i64 p1)):=oc;have hzb:=aD HRz.out (.int .i64 k1) (.int .i64 n1) (.string s1) (.slice a1 l1 c1) (.int .i64 p1);generalize ((((wr.setCell ⟨w.heap.size,0,none⟩ (.int .i64 k1)).setCell ⟨w.heap.size,1,none⟩ (.int .i64 n1)).setCell ⟨w.heap.size,2,none⟩ (.string s1)).setCell ⟨w.heap.size,3,none⟩ (.slice a1 l1 c1)).setCell ⟨w.heap.size,4,none⟩ (.int .i64 p1)=wz at ob hzb⊢;(try simp only [Exit.inBlock,Exit.then]);refine bodyPost_ret (eK _ _ w.heap.size _ _ _ _ _ (.int .i64 (j:Int)) rfl rfl hzb) rfl ?_;rw [HRR2.out];refine RE.good rfl ?_ ?_
      ·exact HV2.out.2.trans (T:=[w.heap.size]) ob (fun k hk=>.inr (by rw [List.mem_singleton.1 hk];exact Nat.le_refl _))
      ·exact EV.kept ob (fun k hk hB=>hB.2.1 (List.mem_singleton.1 hk)) (fun b hb=>hb.1) t _ HV2.out.1
     ·have d1':¬ (lv:Int) < (least:Int):=by omega
      by_cases d2:m < lv
      ·have d2':(m:Int) < (lv:Int):=by omega
       clear hst;(go_wp2_with fail);have ob:Only [w.heap.size] wr (((((wr.setCell ⟨w.heap.size,0,none⟩ (.int .i64 k1)).setCell ⟨w.heap.size,1,none⟩ (.int .i64 n1)).setCell ⟨w.heap.size,2,none⟩ (.string s1)).setCell ⟨w.heap.size,3,none⟩ (.slice a1 l1 c1)).setCell ⟨w.heap.size,4,none⟩ (.int .i64 p1)):=oc;have hzb:=aD HRz.out (.int .i64 k1) (.int .i64 n1) (.string s1) (.slice a1 l1 c1) (.int .i64 p1);generalize ((((wr.setCell ⟨w.heap.size,0,none⟩ (.int .i64 k1)).setCell ⟨w.heap.size,1,none⟩ (.int .i64 n1)).setCell ⟨w.heap.size,2,none⟩ (.string s1)).setCell ⟨w.heap.size,3,none⟩ (.slice a1 l1 c1)).setCell ⟨w.heap.size,4,none⟩ (.int .i64 p1)=wz at ob hzb⊢;(try simp only [Exit.inBlock,Exit.then]);refine bodyPost_ret (eK _ _ w.heap.size _ _ _ _ _ (.int .i64 (j:Int)) rfl rfl hzb) rfl ?_;rw [HRR2.out];refine RE.good rfl ?_ ?_
       ·exact HV2.out.2.trans (T:=[w.heap.size]) ob (fun k hk=>.inr (by rw [List.mem_singleton.1 hk];exact Nat.le_refl _))
       ·exact EV.kept ob (fun k hk hB=>hB.2.1 (List.mem_singleton.1 hk)) (fun b hb=>hb.1) t _ HV2.out.1
      ·have d2':¬ (m:Int) < (lv:Int):=by omega
       have d3:lv=0:=by omega
       subst d3;clear hst;(go_wp2_with fail);have ob:Only [w.heap.size] wr (((((wr.setCell ⟨w.heap.size,0,none⟩ (.int .i64 k1)).setCell ⟨w.heap.size,1,none⟩ (.int .i64 n1)).setCell ⟨w.heap.size,2,none⟩ (.string s1)).setCell ⟨w.heap.size,3,none⟩ (.slice a1 l1 c1)).setCell ⟨w.heap.size,4,none⟩ (.int .i64 p1)):=oc;have hzb:=aD HRz.out (.int .i64 k1) (.int .i64 n1) (.string s1) (.slice a1 l1 c1) (.int .i64 p1);generalize ((((wr.setCell ⟨w.heap.size,0,none⟩ (.int .i64 k1)).setCell ⟨w.heap.size,1,none⟩ (.int .i64 n1)).setCell ⟨w.heap.size,2,none⟩ (.string s1)).setCell ⟨w.heap.size,3,none⟩ (.slice a1 l1 c1)).setCell ⟨w.heap.size,4,none⟩ (.int .i64 p1)=wz at ob hzb⊢;(try simp only [Exit.inBlock,Exit.then]);refine bodyPost_ret (eK _ _ w.heap.size _ _ _ _ _ (.int .i64 (j:Int)) rfl rfl hzb) rfl ?_;rw [HRR2.out];refine RE.good rfl ?_ ?_
       ·exact HV2.out.2.trans (T:=[w.heap.size]) ob (fun k hk=>.inr (by rw [List.mem_singleton.1 hk];exact Nat.le_refl _))
       ·exact EV.kept ob (fun k hk hB=>hB.2.1 (List.mem_singleton.1 hk)) (fun b hb=>hb.1) t _ HV2.out.1
    ·have hgo:kAt ts j=3∧¬ (lvl (xAt ts j) < least∨m < lvl (xAt ts j)∨lvl (xAt ts j)=0):=⟨HT.out.1.symm,by rw [← HLV.out];exact hst⟩
     have hj1:j+1 < ts.length:=jl H.out.ends hj (by rw [hgo.1];decide);obtain ⟨r2,hr2⟩:∃ r2,r2=cT ts f2 (j+1) (lv+1) dp:=⟨_,rfl⟩
     have had:Adv ts (j+1) r2:=by rw [hr2];exact (bi H.out.ends f2).1 (j+1) (lv+1) dp hj1
     have hRR:R=lS ts f2 t (xAt ts j) ps least (if lv=3 then 2 else lv) dp r2:=by
      rw [HRj.out,sf ts f2 t j least m dp hgo,← HLV.out,← hr2,← HT.out.2.2]
     have d1':¬ (lv:Int) < (least:Int):=by omega
     have d2':¬ (m:Int) < (lv:Int):=by omega
     have d3':¬ (lv:Int)=0:=by omega
     have d3'':((lv:Int) == 0)=false:=by simp;omega
     have KE:=fun (w3:World) (ho:Only [] wr w3)=>IE f2 (by omega) w3 _ (j+1) (lv+1) dp (H.out.quiet (L.out.only.trans ho (by simp))) hj1 (by omega) (by omega) hdp;rw [← hr2,show ((j+1:Nat):Int)=(j:Int)+1 by omega,show ((lv+1:Nat):Int)=(lv:Int)+1 by omega] at KE;have HKE:=Hd KE;have HRR2:=Hd hRR;have HAD:=Hd had;have hgB:g10 < wr.heap.size:=(Array.getElem?_eq_some_iff.1 HB.out).1;clear KE hRR KL hst hgo hr2 had;(go_wp2_with fail);refine uN (fun w3 hT3 o3=>?_);refine (HKE.out w3 o3).mono ?_;rintro e w4 ⟨k',n',s',a',l',c',p',rfl,hv2,o4⟩;have HV2:=Hd hv2;have o34:=o3.trans o4 (by simp);have hB4:=o34.heap HB.out (by simp);have hR4:=o34.heap HRz.out (by simp);have hT4:=o4.heap hT3 (by simp);have HO3:=Hd o3;have HO4:=Hd o4;clear hv2 o34 o3 o4 hT3 b0 b1 b2 b3 b4 s0 s1' s2 s3 s4 gs0 gs1 gs2 gs3 gs4 c0 c1' c2;(go_upto_region 9 with (fail));have hs5:(w4.alloc (.cells #[.int .i64 k',.int .i64 n',.string s',.slice a' l' c',.int .i64 p'] 95)).heap.size=w4.heap.size+1:=Array.size_push _;have o5:Only [] w4 (w4.alloc (.cells #[.int .i64 k',.int .i64 n',.string s',.slice a' l' c',.int .i64 p'] 95)):=(Only.refl _ _).alloc _;have hX5:(w4.alloc (.cells #[.int .i64 k',.int .i64 n',.string s',.slice a' l' c',.int .i64 p'] 95)).heap[w4.heap.size]?=some (.cells #[.int .i64 k',.int .i64 n',.string s',.slice a' l' c',.int .i64 p'] 95 (0,0)):=ag w4 _;generalize w4.alloc (.cells #[.int .i64 k',.int .i64 n',.string s',.slice a' l' c',.int .i64 p'] 95)=w5 at hs5 o5 hX5⊢;have hB5:=o5.heap hB4 (by simp);have hR5:=o5.heap hR4 (by simp);have hT5:=o5.heap hT4 (by simp);have x0:w5.cell? ⟨w4.heap.size,0,none⟩=some (.int .i64 k'):=ab 0 hX5;have x1:w5.cell? ⟨w4.heap.size,1,none⟩=some (.int .i64 n'):=ab 1 hX5;have x2:w5.cell? ⟨w4.heap.size,2,none⟩=some (.string s'):=ab 2 hX5;have x3:w5.cell? ⟨w4.heap.size,3,none⟩=some (.slice a' l' c'):=ab 3 hX5;have x4:w5.cell? ⟨w4.heap.size,4,none⟩=some (.int .i64 p'):=ab 4 hX5;have b0:w5.cell? ⟨g10,0,none⟩=some (.int .i64 k1):=ab 0 hB5;have b1:w5.cell? ⟨g10,1,none⟩=some (.int .i64 n1):=ab 1 hB5;have b2:w5.cell? ⟨g10,2,none⟩=some (.string s1):=ab 2 hB5;have b3:w5.cell? ⟨g10,3,none⟩=some (.slice a1 l1 c1):=ab 3 hB5;have b4:w5.cell? ⟨g10,4,none⟩=some (.int .i64 p1):=ab 4 hB5;have gb0:=ae 0 hB5;have gb1:=ae 1 hB5;have gb2:=ae 2 hB5;have gb3:=ae 3 hB5;have gb4:=ae 4 hB5;have t1:w5.cell? ⟨wr.heap.size,1,none⟩=some (.string S):=ab 1 hT5;have t2:w5.cell? ⟨wr.heap.size,2,none⟩=some (.int .i64 ps):=ab 2 hT5;have lT:wr.heap.size < w5.heap.size:=(Array.getElem?_eq_some_iff.1 hT5).1;have nT:wr.heap.size≠w5.heap.size:=by omega
     have lB:g10 < w5.heap.size:=by omega
     have nB:g10≠w5.heap.size:=by omega
     have lX:w4.heap.size < w5.heap.size:=by omega
     have nX:w4.heap.size≠w5.heap.size:=by omega
     have HB5:=Hd hB5;have HR5:=Hd hR5;have HO5:=Hd o5;have HS5:=Hd hs5;clear hB5 hR5 hT5 hB4 hR4 hT4 hX5 o5 hs5;(go_upto_region 10 with (fail));have o6:Only [g10] w5 (((((w5.setCell ⟨g10,0,none⟩ (.int .i64 6)).setCell ⟨g10,1,none⟩ (.int .i64 0)).setCell ⟨g10,2,none⟩ (.string S)).setCell ⟨g10,3,none⟩ (.slice (some ⟨w5.heap.size,0,none⟩) 2 2)).setCell ⟨g10,4,none⟩ (.int .i64 ps)):=oc;have hB6:=aD HB5.out (.int .i64 6) (.int .i64 0) (.string S) (.slice (some ⟨w5.heap.size,0,none⟩) 2 2) (.int .i64 ps);have hs6:(((((w5.setCell ⟨g10,0,none⟩ (.int .i64 6)).setCell ⟨g10,1,none⟩ (.int .i64 0)).setCell ⟨g10,2,none⟩ (.string S)).setCell ⟨g10,3,none⟩ (.slice (some ⟨w5.heap.size,0,none⟩) 2 2)).setCell ⟨g10,4,none⟩ (.int .i64 ps)).heap.size=w5.heap.size:=by simp
     have hR6:=o6.heap HR5.out (by simp;omega);generalize ((((w5.setCell ⟨g10,0,none⟩ (.int .i64 6)).setCell ⟨g10,1,none⟩ (.int .i64 0)).setCell ⟨g10,2,none⟩ (.string S)).setCell ⟨g10,3,none⟩ (.slice (some ⟨w5.heap.size,0,none⟩) 2 2)).setCell ⟨g10,4,none⟩ (.int .i64 ps)=w6 at o6 hB6 hs6 hR6⊢;have hsz4:=(HO3.out.trans HO4.out (by simp)).size;have hsz5:=HO5.out.size;have li:∀ m':Nat,m'=(if lv=3 then 2 else lv)→LI ts w R least dp f w.heap.size g10 (w6.alloc (.cells #[.int .i64 k1,.int .i64 n1,.string s1,.slice a1 l1 c1,.int .i64 p1,.int .i64 k',.int .i64 n',.string s',.slice a' l' c',.int .i64 p'] 95)) (zR r2) (m':Int):=by
      intro m' hm';have o05:Only [] wr w5:=(HO3.out.trans HO4.out (by simp)).trans HO5.out (by simp);have oN:=(Only.refl [] w6).alloc (.cells #[.int .i64 k1,.int .i64 n1,.string s1,.slice a1 l1 c1,.int .i64 p1,.int .i64 k',.int .i64 n',.string s',.slice a' l' c',.int .i64 p'] 95);refine ⟨?_,ax _ hR6,6,0,S,some ⟨w5.heap.size,0,none⟩,2,2,ps,ax _ hB6,?_⟩
      ·refine ((L.out.only.trans o05 (by simp)).trans (T:=[g10]) o6 (fun k hk=>.inr ?_)).trans oN (by simp);rw [List.mem_singleton.1 hk];omega
      ·cases r2 with
       | error k=>exact .inr ⟨k,rfl,HRR2.out⟩
       | ok y=>
        obtain ⟨t2,b2⟩:=y;have hb:j+1 < b2∧b2 < ts.length:=HAD.out;refine .inl ⟨f2,b2,m',_,rfl,rfl,?_,hb.2,by omega,by omega,(HRR2.out).trans (by unfold lS;rw [hm']),?_⟩
        ·rw [hm'];split<;>omega
        have e1:EV w6 (fun b=>w.heap.size≤b∧b≠w.heap.size∧b≠g10) t _:=EV.kept o6 (fun k hk hB=>hB.2.2 (List.mem_singleton.1 hk)) (fun _ h=>h) t _ (EV.quiet HV.out o05)
        have e2:EV w6 (fun b=>w.heap.size≤b∧b≠w.heap.size∧b≠g10) t2 _:=EV.kept o6 (fun k hk hB=>by
         have:=HO3.out.size;rw [List.mem_singleton.1 hk] at hB;omega) (fun b hb=>by
         have:=HO3.out.size
         omega) t2 _ (EV.quiet (HV2.out t2 b2 rfl) HO5.out)
        have e3:=EsV.made2 e1 e2 (by omega);rw [hs6] at e3;have hS:aj (xAt ts j)=S:=HT.out.2.1.symm;have e4:=EV.mk' (k:=6) (n:=0) (s:=xAt ts j) (p:=ps) e3;rw [hS] at e4;exact e4
     have HLI:=Hd li;clear li hB6 hR6 hs6 o6 gb0 gb1 gb2 gb3 gb4 b0 b1 b2 b3 b4 x0 x1 x2 x3 x4 t1 t2 nT nB nX;generalize w6.alloc (.cells #[.int .i64 k1,.int .i64 n1,.string s1,.slice a1 l1 c1,.int .i64 p1,.int .i64 k',.int .i64 n',.string s',.slice a' l' c',.int .i64 p'] 95)=w7 at HLI⊢
     by_cases hl3:lv=3
     ·subst hl3;(go_wp2_with fail);exact ⟨⟨zR r2,2,rfl,rfl,Hd (HLI.out 2 (by simp))⟩,mT hj HAD.out⟩
     ·have hl3':¬ (lv:Int)=3:=by omega
      have hl3'':((lv:Int) == 3)=false:=by simp;omega
      (go_wp2_with fail);exact ⟨⟨zR r2,(lv:Int),rfl,rfl,Hd (HLI.out lv (by rw [if_neg hl3]))⟩,mT hj HAD.out⟩
   ·have hRR:R=.ok (t,j):=by
     rw [HRj.out];unfold dl;rw [← HT.out.1,if_neg (fun e=>hk3 e.1)]
    have HRR2:=Hd hRR;clear hRR;have HV2:=Hd (And.intro HV.out L.out.only);clear HV;have hk6:((kk:Int) == 3)=false:=by simp;omega
    (go_wp2_with fail);have ob:Only [w.heap.size] wr (((((wr.setCell ⟨w.heap.size,0,none⟩ (.int .i64 k1)).setCell ⟨w.heap.size,1,none⟩ (.int .i64 n1)).setCell ⟨w.heap.size,2,none⟩ (.string s1)).setCell ⟨w.heap.size,3,none⟩ (.slice a1 l1 c1)).setCell ⟨w.heap.size,4,none⟩ (.int .i64 p1)):=oc;have hzb:=aD HRz.out (.int .i64 k1) (.int .i64 n1) (.string s1) (.slice a1 l1 c1) (.int .i64 p1);generalize ((((wr.setCell ⟨w.heap.size,0,none⟩ (.int .i64 k1)).setCell ⟨w.heap.size,1,none⟩ (.int .i64 n1)).setCell ⟨w.heap.size,2,none⟩ (.string s1)).setCell ⟨w.heap.size,3,none⟩ (.slice a1 l1 c1)).setCell ⟨w.heap.size,4,none⟩ (.int .i64 p1)=wz at ob hzb⊢;(try simp only [Exit.inBlock,Exit.then]);refine bodyPost_ret (eK _ _ w.heap.size _ _ _ _ _ (.int .i64 (j:Int)) rfl rfl hzb) rfl ?_;rw [HRR2.out];refine RE.good rfl ?_ ?_
    ·exact HV2.out.2.trans (T:=[w.heap.size]) ob (fun k hk=>.inr (by rw [List.mem_singleton.1 hk];exact Nat.le_refl _))
    ·exact EV.kept ob (fun k hk hB=>hB.2.1 (List.mem_singleton.1 hk)) (fun b hb=>hb.1) t _ HV2.out.1
  ·have hz0:z < 0:=by omega
   have HZ:=Hd (And.intro hz hRe);clear hz hRe;(go_wp2_with fail);have ob:Only [w.heap.size] wr (((((wr.setCell ⟨w.heap.size,0,none⟩ (.int .i64 k1)).setCell ⟨w.heap.size,1,none⟩ (.int .i64 n1)).setCell ⟨w.heap.size,2,none⟩ (.string s1)).setCell ⟨w.heap.size,3,none⟩ (.slice a1 l1 c1)).setCell ⟨w.heap.size,4,none⟩ (.int .i64 p1)):=oc;have hzb:=aD HRz.out (.int .i64 k1) (.int .i64 n1) (.string s1) (.slice a1 l1 c1) (.int .i64 p1);generalize ((((wr.setCell ⟨w.heap.size,0,none⟩ (.int .i64 k1)).setCell ⟨w.heap.size,1,none⟩ (.int .i64 n1)).setCell ⟨w.heap.size,2,none⟩ (.string s1)).setCell ⟨w.heap.size,3,none⟩ (.slice a1 l1 c1)).setCell ⟨w.heap.size,4,none⟩ (.int .i64 p1)=wz at ob hzb⊢;(try simp only [Exit.inBlock,Exit.then]);refine bodyPost_ret (eK _ _ w.heap.size _ _ _ _ _ (.int .i64 z) rfl rfl hzb) rfl ?_;rw [HZ.out.2];refine RE.bad HZ.out.1 ?_;exact L.out.only.trans (T:=[w.heap.size]) ob (fun k hk=>.inr (by rw [List.mem_singleton.1 hk];exact Nat.le_refl _))
end
end Go.Proofs.YtcebchffcmpfeaaGreat
