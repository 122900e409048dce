import Derived.Test.YtheanmadognhbaaGreatDoorIet
import Derived.Test.YtheanmadognhbaaGreatDoorHgt
namespace Go.Proofs.YtheanmadognhbaaGreatDoor
set_option linter.unusedVariables false
set_option linter.unusedSimpArgs false
set_option maxRecDepth 100000
set_option maxHeartbeats 16000000
open Go.RowKit Go.Maps
def pdT (r:Except (Nat×Nat) Df) (t:Bool):Option Df:=match r with | .ok d=>if t=true then (if okT d=true then some (mu d) else none) else some d | .error _=>none
theorem ox (s:ByteArray) (t:Bool) (w:World) (hs:s.size≤9223372036854775807):Calls Tryz.prog 10 #[.string s,.bool t] w (rh w (pdT (bf s.data.toList) t)):=by
 obtain ⟨R,hR⟩:∃ R,R=bf s.data.toList:=⟨_,rfl⟩
 rw [← hR];have HR:=Hd hR;clear hR
 go_enter Tryz.func10,Tryz.ntmps10
 go_upto_region 1 with (fail)
 obtain ⟨w1,q9,o1,hz,-⟩:=nb w (.cells #[.string ⟨#[]⟩,.slice none 0 0,.slice none 0 0,.slice none 0 0,.slice none 0 0] 27);rw [← q9];clear q9;obtain ⟨gz,hgz⟩:∃ g,g=w.heap.size:=⟨_,rfl⟩
 rw [← hgz] at hz⊢;have K1:=sg s w1 hs;rw [← HR.out] at K1;have HG:=Hd hgz;have HO:=Hd o1;have HZ:=Hd hz;have HZL:=Hd (am hz);clear o1 hz hgz;go_wp2_with fail
 refine K1.mono ?_;rintro e w2 ⟨sn,a1,a2,a3,a4,l1,l2,l3,l4,c1,c2,c3,c4,pc,pp,rfl,herr,hok,o2⟩;replace HO:=Hd (HO.out.trans o2 (by simp));replace HZ:=Hd (o2.heap HZ.out (by simp));have HOK:=Hd hok;have HER:=Hd herr;clear K1 o2 hok herr;go_upto_region 2 with (fail)
 obtain ⟨w3,q9,oA,hA,-⟩:=nb w2 (.cells #[.string sn,.slice a1 l1 c1,.slice a2 l2 c2,.slice a3 l3 c3,.slice a4 l4 c4] 27);rw [← q9];clear q9;obtain ⟨gd,hgd⟩:∃ g,g=w2.heap.size:=⟨_,rfl⟩
 rw [← hgd] at hA⊢;replace HO:=Hd (HO.out.trans oA (by simp));replace HZ:=Hd (oA.heap HZ.out (by simp));have HOA:=Hd oA;have x0:w3.cell? ⟨gd,0,none⟩=some (.string sn):=ab 0 hA;have x1:w3.cell? ⟨gd,1,none⟩=some (.slice a1 l1 c1):=ab 1 hA;have x2:w3.cell? ⟨gd,2,none⟩=some (.slice a2 l2 c2):=ab 2 hA;have x3:w3.cell? ⟨gd,3,none⟩=some (.slice a3 l3 c3):=ab 3 hA;have x4:w3.cell? ⟨gd,4,none⟩=some (.slice a4 l4 c4):=ab 4 hA;clear hA oA hgd;have z0:w3.cell? ⟨gz,0,none⟩=some (.string ⟨#[]⟩):=ab 0 HZ.out;have z1:w3.cell? ⟨gz,1,none⟩=some (.slice none 0 0):=ab 1 HZ.out;have z2:w3.cell? ⟨gz,2,none⟩=some (.slice none 0 0):=ab 2 HZ.out;have z3:w3.cell? ⟨gz,3,none⟩=some (.slice none 0 0):=ab 3 HZ.out;have z4:w3.cell? ⟨gz,4,none⟩=some (.slice none 0 0):=ab 4 HZ.out;have fz0:=ac 0 HZ.out;have fz1:=ac 1 HZ.out;have fz2:=ac 2 HZ.out;have fz3:=ac 3 HZ.out;have fz4:=ac 4 HZ.out;cases hr:R with
 | error q=>
  obtain ⟨k,p0⟩:=q;obtain ⟨rfl,rfl⟩:=HER.out k p0 hr;have hq:pdT R t=none:=by rw [hr];rfl
  have HQ:=Hd (show (pdT R t).isSome=false by rw [hq];rfl);have HQ':=Hd hq;have hk:=jG (HR.out.symm.trans hr);have hpc:((pc:Int) == 0)=false:=by simp;omega
  have hpd:¬ (pc:Int)=0:=by omega
  clear hr hq hk;go_wp2_with fail
  (try simp only [Exit.inBlock,Exit.then]);refine bodyPost_ret (ci _ _ gz _ _ _ _ _ (.bool false) rfl rfl (ax HZ.out _ _ _ _ _)) rfl ?_;have oz:Only [gz] w3 (((((w3.setCell ⟨gz,0,none⟩ (.string sn)).setCell ⟨gz,1,none⟩ (.slice a1 l1 c1)).setCell ⟨gz,2,none⟩ (.slice a2 l2 c2)).setCell ⟨gz,3,none⟩ (.slice a3 l3 c3)).setCell ⟨gz,4,none⟩ (.slice a4 l4 c4)):=oc;refine ⟨sn,a1,a2,a3,a4,l1,l2,l3,l4,c1,c2,c3,c4,by rw [HQ.out]<;>rfl,fun d hr=>?_,HO.out.trans oz (fun k hk=>.inr (by rw [List.mem_singleton.1 hk,HG.out];exact Nat.le_refl _))⟩;have:=HZL.out;have:=HG.out;rw [HQ'.out] at hr;cases hr
 | ok d0=>
  obtain ⟨rfl,rfl,hdv⟩:=HOK.out d0 hr;have HDV:=Hd (hdv.kept HOA.out (by simp) (fun _ h=>h));have HWP:=Hd (show Whole d0∧pB d0.body from ⟨eo (HR.out.symm.trans hr),dz (HR.out.symm.trans hr)⟩);have HR0:=Hd hr;clear hdv hr;cases t with
  | false=>
   have HQ:=Hd (show (pdT R false).isSome=true by rw [HR0.out];rfl);(go_wp2_with fail);(try simp only [Exit.inBlock,Exit.then]);refine bodyPost_ret (ci _ _ gz _ _ _ _ _ (.bool true) rfl rfl (ax HZ.out _ _ _ _ _)) rfl ?_;have oz:Only [gz] w3 (((((w3.setCell ⟨gz,0,none⟩ (.string sn)).setCell ⟨gz,1,none⟩ (.slice a1 l1 c1)).setCell ⟨gz,2,none⟩ (.slice a2 l2 c2)).setCell ⟨gz,3,none⟩ (.slice a3 l3 c3)).setCell ⟨gz,4,none⟩ (.slice a4 l4 c4)):=oc;refine ⟨sn,a1,a2,a3,a4,l1,l2,l3,l4,c1,c2,c3,c4,by rw [HQ.out]<;>rfl,fun d hr=>?_,HO.out.trans oz (fun k hk=>.inr (by rw [List.mem_singleton.1 hk,HG.out];exact Nat.le_refl _))⟩;have:=HZL.out;have:=HG.out;rw [HR0.out] at hr;cases hr;have hd:=HDV.out;exact hd.kept oz (fun q hq hB=>by rw [List.mem_singleton.1 hq] at hB;omega) (fun q hq=>by omega)
  | true=>
   have KT:=xz HDV.out HWP.out.1 HWP.out.2;clear z0 z1 z2 z3 z4 fz0 fz1 fz2 fz3 fz4;(go_wp2_with fail);refine KT.mono ?_;rintro e w4 ⟨sn5,a15,a25,a35,a45,l15,l25,l35,l45,c15,c25,c35,c45,rfl,hdv5,o4⟩;have HS4:=Hd (And.intro HO.out.size (am HZ.out));replace HO:=Hd (HO.out.trans o4 (by simp));replace HZ:=Hd (o4.heap HZ.out (by simp));have HDV5:=Hd hdv5;clear KT hdv5 o4 x0 x1 x2 x3 x4;(go_upto_region 6 with (fail));obtain ⟨w5,q9,oA,hA,-⟩:=nb w4 (.cells #[.string sn5,.slice a15 l15 c15,.slice a25 l25 c25,.slice a35 l35 c35,.slice a45 l45 c45] 27);rw [← q9];clear q9;obtain ⟨ge,hge⟩:∃ g,g=w4.heap.size:=⟨_,rfl⟩
   rw [← hge] at hA⊢;replace HO:=Hd (HO.out.trans oA (by simp));replace HZ:=Hd (oA.heap HZ.out (by simp));replace HDV5:=Hd (HDV5.out.kept oA (by simp) (fun _ h=>h));have x0:w5.cell? ⟨ge,0,none⟩=some (.string sn5):=ab 0 hA;have x1:w5.cell? ⟨ge,1,none⟩=some (.slice a15 l15 c15):=ab 1 hA;have x2:w5.cell? ⟨ge,2,none⟩=some (.slice a25 l25 c25):=ab 2 hA;have x3:w5.cell? ⟨ge,3,none⟩=some (.slice a35 l35 c35):=ab 3 hA;have x4:w5.cell? ⟨ge,4,none⟩=some (.slice a45 l45 c45):=ab 4 hA;clear hA oA hge;have z0:w5.cell? ⟨gz,0,none⟩=some (.string ⟨#[]⟩):=ab 0 HZ.out;have z1:w5.cell? ⟨gz,1,none⟩=some (.slice none 0 0):=ab 1 HZ.out;have z2:w5.cell? ⟨gz,2,none⟩=some (.slice none 0 0):=ab 2 HZ.out;have z3:w5.cell? ⟨gz,3,none⟩=some (.slice none 0 0):=ab 3 HZ.out;have z4:w5.cell? ⟨gz,4,none⟩=some (.slice none 0 0):=ab 4 HZ.out;have fz0:=ac 0 HZ.out;have fz1:=ac 1 HZ.out;have fz2:=ac 2 HZ.out;have fz3:=ac 3 HZ.out;have fz4:=ac 4 HZ.out;cases hok:okT d0 with
   | true=>
    have HDT:=Hd (show DV w5 _ (mu d0) _ by have h:=HDV5.out;rw [if_pos hok] at h;exact h);have HQ:=Hd (show (pdT R true).isSome=true by rw [HR0.out];simp [pdT,hok]);have HQ':=Hd (show pdT R true=some (mu d0) by rw [HR0.out];simp [pdT,hok]);clear hok;rw [if_pos rfl];(go_wp2_with fail);(try simp only [Exit.inBlock,Exit.then]);refine bodyPost_ret (ci _ _ gz _ _ _ _ _ (.bool true) rfl rfl (ax HZ.out _ _ _ _ _)) rfl ?_;have oz:Only [gz] w5 (((((w5.setCell ⟨gz,0,none⟩ (.string sn5)).setCell ⟨gz,1,none⟩ (.slice a15 l15 c15)).setCell ⟨gz,2,none⟩ (.slice a25 l25 c25)).setCell ⟨gz,3,none⟩ (.slice a35 l35 c35)).setCell ⟨gz,4,none⟩ (.slice a45 l45 c45)):=oc;refine ⟨sn5,a15,a25,a35,a45,l15,l25,l35,l45,c15,c25,c35,c45,by rw [HQ.out]<;>rfl,fun d hr=>?_,HO.out.trans oz (fun k hk=>.inr (by rw [List.mem_singleton.1 hk,HG.out];exact Nat.le_refl _))⟩;have:=HZL.out;have:=HG.out;rw [HQ'.out] at hr;cases hr;have hd:=HDT.out;have hs4:=HS4.out.1;have hs5:=HS4.out.2;exact hd.kept oz (fun q hq hB=>by rw [List.mem_singleton.1 hq] at hB;omega) (fun q hq=>by omega)
   | false=>
    have HQ:=Hd (show (pdT R true).isSome=false by rw [HR0.out];simp [pdT,hok]);have HQ':=Hd (show pdT R true=none by rw [HR0.out];simp [pdT,hok]);clear hok;rw [if_neg (by decide)];(go_wp2_with fail);(try simp only [Exit.inBlock,Exit.then]);refine bodyPost_ret (ci _ _ gz _ _ _ _ _ (.bool false) rfl rfl (ax HZ.out _ _ _ _ _)) rfl ?_;have oz:Only [gz] w5 (((((w5.setCell ⟨gz,0,none⟩ (.string sn5)).setCell ⟨gz,1,none⟩ (.slice a15 l15 c15)).setCell ⟨gz,2,none⟩ (.slice a25 l25 c25)).setCell ⟨gz,3,none⟩ (.slice a35 l35 c35)).setCell ⟨gz,4,none⟩ (.slice a45 l45 c45)):=oc;refine ⟨sn5,a15,a25,a35,a45,l15,l25,l35,l45,c15,c25,c35,c45,by rw [HQ.out]<;>rfl,fun d hr=>?_,HO.out.trans oz (fun k hk=>.inr (by rw [List.mem_singleton.1 hk,HG.out];exact Nat.le_refl _))⟩;have:=HZL.out;have:=HG.out;rw [HQ'.out] at hr;cases hr
def oy (x:Dc):Dc:=(x.1,x.2.1,gD x.2.2)
theorem Inc.flip:∀ {l:List Dc},Inc l→Inc (l.map oy)
 | [],_=>trivial
 | x :: xs,h=>⟨fun y hy=>by
   obtain ⟨z,hz,rfl⟩:=List.mem_map.1 hy
   exact h.1 z hz,Inc.flip h.2⟩
theorem gW:∀ (a b:List St),ap (a++b)=ap a++ap b
 | [],b=>by
  have e:ap []=[]:=by unfold ap;rfl
  rw [List.nil_append,e,List.nil_append]
 | x :: a,b=>by
  show ap (x :: (a++b))=ap (x :: a)++ap b;have e:∀ m,ap (x :: m)=bD x++ap m:=fun m=>by conv=>lhs;unfold ap
  rw [e,e,gW a b,List.append_assoc]
theorem ro {k:Int}:(gD k=1∨gD k=7∨gD k=8)↔(k=1∨k=7∨k=8):=by
 unfold gD;split
 ·omega
 ·split
  ·omega
  ·split
   ·omega
   ·split<;>omega
theorem kp:ap []=[]:=by unfold ap;rfl
mutual
theorem dS_turn:∀ x:St,pS x→(bD (tuS x)).Perm ((bD x).map oy)
 | .mk k nm xs n bd els p,h=>by
  unfold pS at h;have h1:=mH bd h.2.2.1;have h2:=mH els h.2.2.2;rw [← gW] at h1 h2;unfold tuS bD;rw [List.map_append,List.map_append];refine List.Perm.append (List.Perm.append ?_ h1) h2
  by_cases hk:k=1∨k=7∨k=8
  ·rw [if_pos hk,if_pos (ro.2 hk)];exact List.Perm.refl _
  ·rw [if_neg hk,if_neg (fun e=>hk (ro.1 e))];exact List.Perm.refl _
theorem mH:∀ xs:List St,pB xs→(ap (aG xs)++ap (tuO xs)).Perm ((ap xs).map oy)
 | [],_=>by
  unfold aG tuO;rw [kp];exact List.Perm.refl _
 | x :: xs,h=>by
  unfold pB at h;have ih:=mH xs h.2;have hx:=dS_turn x h.1;have e:ap (x :: xs)=bD x++ap xs:=by conv=>lhs;unfold ap
  rw [e,List.map_append]
  by_cases hk:x.kind=1
  ·have e1:aG (x :: xs)=x :: aG xs:=by conv=>lhs;unfold aG;rw [if_pos hk]
   have e2:tuO (x :: xs)=tuO xs:=by conv=>lhs;unfold tuO;rw [if_pos hk,List.append_nil]
   have e3:ap (x :: aG xs)=bD x++ap (aG xs):=by conv=>lhs;unfold ap
   rw [e1,e2,e3,List.append_assoc];have e4:(bD x).map oy=bD x:=by
    obtain ⟨k,nm,ys,n,bd,els,p⟩:=x;obtain rfl:k=1:=hk;have hp:=h.1;unfold pS at hp;obtain rfl:=hp.1 (by decide);obtain rfl:=hp.2.1 (by decide);unfold bD;rw [if_pos (by decide),kp];rfl
   rw [e4];exact ih.append_left _
  ·have e1:aG (x :: xs)=aG xs:=by conv=>lhs;unfold aG;rw [if_neg hk]
   have e2:tuO (x :: xs)=tuO xs++[tuS x]:=by conv=>lhs;unfold tuO;rw [if_neg hk]
   have e3:ap [tuS x]=bD (tuS x):=by
    have:ap [tuS x]=bD (tuS x)++ap []:=by conv=>lhs;unfold ap
    rw [this,kp,List.append_nil]
   rw [e1,e2,gW,e3,← List.append_assoc];exact (List.perm_append_comm).trans (List.Perm.append hx ih)
end
theorem turn_ord {d:Df} (hp:pB d.body) (h:Inc (ap d.body)):Ord (mu d):=by
 refine ⟨(ap d.body).map oy,h.flip,?_⟩;have:=mH d.body hp;rw [← gW] at this;exact this.symm
theorem xA {l:Sec} {d:Df} (h:bf l=.ok d):DfOk (mu d):=⟨sY (eo h),sZ (dz h),ww (ln h),turn_ord (dz h) (oe h)⟩
theorem ok_pdT {l:Sec} {t:Bool} {d:Df} (h:pdT (bf l) t=some d):DfOk d:=by
 unfold pdT at h;split at h
 ·rename_i d0 h0;split at h
  ·split at h
   ·cases h;exact xA h0
   ·cases h
  ·cases h;exact kf h0
 ·cases h
end Go.Proofs.YtheanmadognhbaaGreatDoor
