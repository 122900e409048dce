import Derived.Test.YtcebchffcmpfeaaGreatX18t
namespace Go.Proofs.YtcebchffcmpfeaaGreat
set_option linter.unusedVariables false
set_option linter.unusedSimpArgs false
set_option maxRecDepth 100000
set_option maxHeartbeats 16000000
open Go.RowKit Go.Maps
def WdM (s:Mc):Prop:=(∀ z∈s.st,n64 z)∧(∀ z∈s.lo,n64 z)∧CW s.pg
theorem oa {z:Int} (h0:0≤z) (h1:z≤100000):n64 z:=by unfold n64;omega
theorem n64_tr (p:Prop) [Decidable p]:n64 (tr p):=by unfold tr;split<;>exact oa (by omega) (by omega)
theorem getD_n64 {l:List Int} (h:∀ z∈l,n64 z) (i:Nat):n64 (l.getD i 0):=by
 rw [List.getD_eq_getElem?_getD];cases hq:l[i]? with
 | none=>exact a7
 | some x=>exact h x (List.mem_of_getElem? hq)
theorem oe {l:List Int} (h:∀ z∈l,n64 z):n64 (l.headD 0):=by
 cases l with
 | nil=>exact a7
 | cons x t=>exact h x (by simp)
theorem rH {l:List Int} (h:∀ z∈l,n64 z):∀ z∈l.tail,n64 z:=fun z hz=>h z (List.mem_of_mem_tail hz)
theorem fd {l:List Int} {x:Int} (hx:n64 x) (h:∀ z∈l,n64 z):∀ z∈x :: l,n64 z:=fun z hz=>by
 rcases List.mem_cons.1 hz with rfl | hz
 ·exact hx
 ·exact h z hz
theorem wZ {l:List Int} {x:Int} (i:Nat) (hx:n64 x) (h:∀ z∈l,n64 z):∀ z∈l.set i x,n64 z:=fun z hz=>by
 rcases List.mem_or_eq_of_mem_set hz with h1 | rfl
 ·exact h z h1
 ·exact hx
theorem gK {α:Type} {P:α→Prop} {p:Prop} [Decidable p] {a b:α} (ha:p→P a) (hb:P b):P (if p then a else b):=by
 split
 ·exact ha ‹_›
 ·exact hb
theorem doM_wd {c:Cd} {i:Ins} {s:Mc} (h:WdM s) (hi:n64 i.2) (hl:i.1=14→0≤s.lo.getD (lpA c i.2).loc.toNat 0∧s.lo.getD (lpA c i.2).loc.toNat 0 < 64):WdM (doM c i s):=by
 obtain ⟨h1,h2,h3⟩:=h;have hx:=oe h1;have ht:=rH h1;have hy:=oe ht;have htt:=rH ht;unfold doM;dsimp only;refine gK (fun _=>⟨fd hi h1,h2,h3⟩) ?_;refine gK (fun _=>⟨fd (getD_n64 h2 _) h1,h2,h3⟩) ?_;refine gK (fun _=>⟨ht,wZ _ hx h2,h3⟩) ?_;refine gK (fun _=>⟨fd (my h3 _) ht,h2,h3⟩) ?_;refine gK (fun _=>⟨htt,h2,mz h3 _ _ hx⟩) ?_;refine gK (fun _=>⟨htt,h2,wY h3 _ _⟩) ?_;refine gK (fun _=>⟨fd (vY _ _ _) htt,h2,h3⟩) ?_;refine gK (fun _=>⟨fd (gj _) ht,h2,h3⟩) ?_;refine gK (fun _=>⟨fd (n64_tr _) ht,h2,h3⟩) ?_;refine gK (fun _=>⟨h1,h2,h3⟩) ?_;refine gK (fun _=>⟨ht,h2,h3⟩) ?_;refine gK (fun h14=>⟨h1,wZ _ (oa (by have:=hl h14;omega) (by have:=hl h14;omega)) h2,h3⟩) ?_;refine gK (fun _=>⟨ht,h2,h3⟩) ?_;refine gK (fun _=>⟨ht,h2,h3⟩) ?_;exact ⟨h1,h2,h3⟩
theorem dop_of {c:Cd} {F:List Int} (hg:GdC c) (hF:Hts c F) {s:Mc} (iv:IvM c F s) (hw:WdM s) {i:Ins} (hi:c.ins[s.at_]?=some i):DoP c s.at_ i (nxM s):=by
 have ht:=hF.ins hi;unfold HtI at ht;rw [← iv.st] at ht;have hok:=hg.ins hi;have fit:=hg.fit;refine ⟨hok,by omega,fun _=>by show _≤(s.st.length:Int);omega,?_,hw.1,fun h14=>?_⟩
 ·have m:=mvs_nn i.1;have m2:(mvs i.1).1≤2:=by unfold mvs;(repeat' split)<;>decide
  show s.st.length≤1000;omega
 ·obtain ⟨h1,h2,h3⟩:=eY hok h14;have hm:=List.mem_of_getElem? h1;have b:=hg.lp _ hm;have q:=iv.lp _ hm (by rw [aG];omega);exact ⟨by omega,by omega,by omega,q.1,by show s.lo.getD _ 0 < 64;omega⟩
section
variable {w0 w w':World} {g:Nat} {q:Int} {c:Cd} {a1 a2:Option Addr} {n1 c1 n2 c2:Nat} {s:Mc} {v:Value}
theorem doM_n (c:Cd) (i:Ins) (s:Mc):(doM c i s).n=s.n:=by
 unfold doM;simp only [apply_ite Mc.n,ite_self]
def RunP (w0:World) (g:Nat) (q:Int) (c:Cd) (a1:Option Addr) (n1 c1:Nat) (a2:Option Addr) (n2 c2:Nat) (R:Mc×Bool) (e:Ending) (w':World):Prop:=
 e=.returned (.bool R.2)∧∃ v',MV w0 w' g q c a1 n1 c1 a2 n2 c2 R.1 v'
theorem mrun_any {F:List Int} (hg:GdC c) (hF:Hts c F) (hci:∀ i∈c.ins,n64 i.2) (h:MV w0 w g q c a1 n1 c1 a2 n2 c2 s v) (iv:IvM c F s) (hw:WdM s) (hf:Ph c (fun _=>1) s.at_ s.lo≤65536) (hn:s.n=0) :
  Calls Tryz.prog 21 #[.pointer (some ⟨g,0,none⟩)] w (RunP w0 g q c a1 n1 c1 a2 n2 c2 (rE c 65536 s)):=by
 obtain ⟨R,hR⟩:∃ R,R=rE c 65536 s:=⟨_,rfl⟩
 rw [← hR];have HG:=Hd (And.intro hg hF);have HC:=Hd hci;have hst:∃ (s':Mc) (v':Value),MV w0 w g q c a1 n1 c1 a2 n2 c2 s' v'∧IvM c F s'∧WdM s'∧Ph c (fun _=>1) s'.at_ s'.lo≤65536∧s'.n+65536≤65536∧R=rE c 65536 s':=⟨s,v,h,iv,hw,hf,by omega,hR⟩
 have HS:=Hd hst;clear hst h iv hw hf hn hR hg hF hci
 go_enter Tryz.func21,Tryz.ntmps21
 go_wp2_with fail
 go_loopg [2] 65536 (fun f s2 wr=>s2=.bool false∧Hid (∃ (s':Mc) (v':Value),MV w0 wr g q c a1 n1 c1 a2 n2 c2 s' v'∧IvM c F s'∧WdM s'∧Ph c (fun _=>1) s'.at_ s'.lo≤f∧s'.n+f≤65536∧R=rE c f s'))
 case atStart=>exact ⟨rfl,HS⟩
 case round=>
  clear HS;obtain ⟨rfl,HQ⟩:=hrel;obtain ⟨s',v',hM,hI,hW,hP,hN,hR⟩:=HQ.out;obtain ⟨k,hk⟩:∃ k,k=s'.at_:=⟨_,rfl⟩
  obtain ⟨m,hm⟩:∃ m,m=s'.n:=⟨_,rfl⟩
  have c130:=hM.plc;have c131:=hM.cnt;have c63:=hM.ins;have hkl:=hI.at_;have en:=hM.code.e1;have b1:=hM.code.b1;rw [← hk] at c130 hkl hP;rw [← hm] at c131 hN;rw [← en] at hkl;have HM:=Hd hM;have HI:=Hd hI;have HW:=Hd hW;have HP:=Hd hP;have HR:=Hd hR;have HN:=Hd (And.intro hk (And.intro hm en));clear HQ hM hI hW hP hR hk hm en
  by_cases hlt:k < n1
  ·have hlt':(k:Int) < (n1:Int):=by omega
   have k0:(0:Int)≤(k:Int):=by omega
   obtain ⟨i,gl,o,hi,rfl,z0,z1⟩:=HM.out.code.instr hlt;have HZ:=Hd (And.intro z0 z1);have z0:=ac HM.out.only z0 (by simp);have z1:=ac HM.out.only z1 (by simp);have HJ:=Hd hi;clear hi;go_wp2_with fail
   go_quiet (fail)
   (go_upto_region 2 with (fail));have oq:Only [] wr (wr.drewN nq):=bU (Only.refl _ _);generalize wr.drewN nq=wq at oq⊢;have oD:Only [] wr wq.drew:=oq.trans ((Only.refl [] wq).drew) (by simp);have hM2:=HM.out.quiet oD
   refine wp_region_held_drew (S:=fun w'=>w'.cell? ⟨g,130,none⟩=some (.int .i64 (k:Int))∧w'.cell? ⟨g,63,none⟩=some (.slice (some ⟨gl,o,none⟩) n1 c1)∧w'.cell? ⟨gl,o+k*2,none⟩=some (.int .i64 i.1)∧w'.cell? ⟨gl,o+k*2+1,none⟩=some (.int .i64 i.2)) (by kernel_rfl)
    ⟨ac oD c130 (by simp),ac oD c63 (by simp),ac oD z0 (by simp),ac oD z1 (by simp)⟩ (fun hH=>?_)
   have HM2:=Hd hM2;generalize wq.drew=wd at HM2 hH⊢;clear oD oq hM2 c130 c131 c63 z0 z1 HM;refine tk 0 hH ?_;refine tk 1 hH ?_;refine tk 2 hH ?_;refine tk 3 hH ?_;refine tk 4 hH ?_;refine tk 5 hH ?_;refine tk 6 hH ?_;refine tk 7 hH ?_;refine tk 8 hH ?_;refine tk 9 hH ?_;refine tk 10 hH ?_;refine rd 11 (fun K hK=>?_);go_simp;obtain ⟨we,q9,oA,hA,-⟩:=nb wd (.cells #[.int .i64 0,.int .i64 0] 52);rw [← q9];clear q9;obtain ⟨gb,hgb⟩:∃ g,g=wd.heap.size:=⟨_,rfl⟩
   rw [← hgb] at hA⊢;have HM3:=Hd (HM2.out.quiet oA);have HGB:=Hd (show wd.heap.size≤gb by omega);have hne:gb≠g:=by have:=HM2.out.lt;omega
   refine hK.out _ _ ⟨ac oA hH.1 (by simp),ac oA hH.2.1 (by simp),ac oA hH.2.2.1 (by simp),ac oA hH.2.2.2 (by simp)⟩ (fun hH=>?_);have f0:=ae 0 hA;have f1:=ae 1 hA;have q0:we.cell? ⟨gb,0,none⟩=some (.int .i64 0):=ab 0 hA;have q1:we.cell? ⟨gb,1,none⟩=some (.int .i64 0):=ab 1 hA;have HA:=Hd hA;have HOA:=Hd oA;clear hK K oA hA hgb;refine rd 12 (fun K hK=>?_);go_simp;have oz:Only [] wd ((we.setCell ⟨gb,0,none⟩ (.int .i64 i.1)).setCell ⟨gb,1,none⟩ (.int .i64 i.2)):=(HOA.out.setCell (.inr HGB.out) _).setCell (.inr HGB.out) _;have hz:=gD (.int .i64 i.1) (.int .i64 i.2) HA.out;have o2:Only [gb] we ((we.setCell ⟨gb,0,none⟩ (.int .i64 i.1)).setCell ⟨gb,1,none⟩ (.int .i64 i.2)):=oc;generalize (we.setCell ⟨gb,0,none⟩ (.int .i64 i.1)).setCell ⟨gb,1,none⟩ (.int .i64 i.2)=wz at oz hz o2⊢;have hM4:=HM2.out.quiet oz;have e130:=hM4.plc;rw [← HN.out.1] at e130;refine hK.out _ _ ⟨e130,hM4.ins,ac hM4.only HZ.out.1 (by simp),ac hM4.only HZ.out.2 (by simp)⟩ (fun hH=>?_);have HM4:=Hd hM4;have HB4:=Hd hz;clear hK K q0 q1 f0 f1 oz hz o2 hM4 e130 HM2 HM3 HA HOA HGB HZ;refine wpAnyH_done (by kernel_rfl) ?_ _;clear hH;have c130:=HM4.out.plc;rw [← HN.out.1] at c130;have f130:=HM4.out.free 130;obtain ⟨r1,r2⟩:=HM4.out.put (s':={s' with at_:=k+1 }) 1 (.int .i64 ((k:Int)+1)) rfl rfl rfl (by simp);have hB5:=(HM4.out.vk r2) gb _ _ HB4.out (by decide) (by decide);have HM5:=Hd r1;have HB5:=Hd hB5;clear r1 r2 hB5;(go_upto_region 4 with (fail));generalize wz.setCell ⟨g,130,none⟩ (.int .i64 ((k:Int)+1))=w5 at HM5 HB5⊢;have c131:w5.cell? ⟨g,131,none⟩=some (.int .i64 (m:Int)):=by rw [HN.out.2.1];exact HM5.out.cnt
   have f131:=HM5.out.free 131;obtain ⟨r1,r2⟩:=HM5.out.put (s':={s' with at_:=k+1,n:=m+1 }) 2 (.int .i64 ((m:Int)+1)) rfl rfl rfl (by simp);have hB6:=(HM5.out.vk r2) gb _ _ HB5.out (by decide) (by decide);have HM6:=Hd r1;have HB6:=Hd hB6;clear r1 r2 hB6 c130 f130;(go_upto_region 5 with (fail));generalize w5.setCell ⟨g,131,none⟩ (.int .i64 ((m:Int)+1))=w6 at HM6 HB6⊢;have e6:({s' with at_:=k+1,n:=m+1 }:Mc)=nxM s':=by rw [HN.out.1,HN.out.2.1];rfl
   have hM6:=HM6.out;rw [e6] at hM6;have hJ:=HJ.out;rw [HN.out.1] at hJ;have hD:=dop_of HG.out.1 HG.out.2 HI.out HW.out hJ;obtain ⟨o1,o2,-⟩:=doM_ok HG.out.1 HG.out.2 (fun _=>1) HI.out hJ;have hP:=HP.out;rw [HN.out.1] at hP;obtain ⟨f,rfl⟩:∃ f,gk=f+1:=⟨gk - 1,by omega⟩
   have hR:=HR.out;rw [rE,hJ] at hR;dsimp only at hR;have hwd:WdM (doM c i (nxM s')):=doM_wd (s:=nxM s') HW.out (HC.out i (List.mem_of_getElem? hJ)) (fun h=>by have:=hD.lp h;exact ⟨this.2.2.2.1,this.2.2.2.2⟩);have hnf:(doM c i (nxM s')).n+f≤65536:=by
    rw [doM_n];show s'.n+1+f≤65536;rw [← HN.out.2.1];omega
   have hphf:Ph c (fun _=>1) (doM c i (nxM s')).at_ (doM c i (nxM s')).lo≤f:=by omega
   have HNX:=Hd (And.intro o1 (And.intro hwd (And.intro hphf hnf)));have HM7:=Hd hM6;have HD:=Hd hD;have HRR:=Hd hR;have y0:w6.cell? ⟨gb,0,none⟩=some (.int .i64 i.1):=ab 0 HB6.out;have y1:w6.cell? ⟨gb,1,none⟩=some (.int .i64 i.2):=ab 1 HB6.out;have hlen:(nxM s').st.length≤1000:=hD.len
   by_cases h15:i.1=15
   ·have ht:=HG.out.2.ins hJ;unfold HtI at ht;rw [← HI.out.st,h15] at ht;obtain ⟨x,t,hst⟩:=gJ (l:=s'.st) (by have:=ht.1;simp only [mvs] at this;simpa using this);have hl2:t.length≤1000:=by
     have:s'.st.length≤1000:=hlen;rw [hst] at this;simp at this;omega
    have KP:=bC HM7.out hlen (x:=x) (t:=t) hst;rw [h15] at y0;have H15:=Hd h15;have HST:=Hd hst;clear e6 hM6 hJ hD o1 o2 hP hR hwd hnf hphf HM6 HM5 HM4 ht hst h15 HR HP c131 f131;(go_wp2_with fail);refine KP.mono ?_;rintro e w7 ⟨rfl,v7,hm,hv,-⟩;have hB7:=(HM7.out.vk hv) gb _ _ HB6.out (by decide) (by decide);have HM8:=Hd hm;have HB8:=Hd hB7;clear KP hm hv hB7 y0 y1
    by_cases hx:x=0
    ·have hR:=HRR.out;rw [if_pos ⟨H15.out,by rw [HST.out];exact hx⟩,HST.out] at hR;have HRF:=Hd hR;clear hR;subst hx;(go_wp2_with fail);go_ret;exact ⟨by rw [HRF.out];rfl,v7,by rw [HRF.out];exact HM8.out⟩
    ·have hR:=HRR.out;rw [if_neg (fun h=>hx (by have:=h.2;rw [HST.out] at this;exact this))] at hR;have HRF:=Hd hR;have y0:w7.cell? ⟨gb,0,none⟩=some (.int .i64 i.1):=ab 0 HB8.out;have y1:w7.cell? ⟨gb,1,none⟩=some (.int .i64 i.2):=ab 1 HB8.out;have KD:=do_any HM8.out (k:=s'.at_) (i:=i) ⟨HD.out.ok,HD.out.loc,fun h=>absurd H15.out h,hl2,fun z hz=>HD.out.n64 z (by show z∈s'.st;rw [HST.out];exact List.mem_cons_of_mem _ hz),fun h=>by rw [H15.out] at h;cases h⟩
     have HE:=Hd (show dvM c i {nxM s' with st:=t }=doM c i (nxM s') by
      unfold dvM doM;rw [if_pos H15.out,H15.out];simp;show _=s'.st.tail;rw [HST.out]
      rfl)
     rw [HE.out] at KD;clear hR;(go_wp2_with fail);refine KD.mono ?_;rintro e w8 ⟨rfl,v8,hm,-⟩;have HM9:=Hd hm;clear KD hm y0 y1;go_wp2_with fail
     go_roundg f
     case measure=>omega
     case rel=>exact ⟨rfl,Hd ⟨_,v8,HM9.out,HNX.out.1,HNX.out.2.1,HNX.out.2.2.1,HNX.out.2.2.2,HRF.out⟩⟩
   ·have hR':=hR;rw [if_neg (fun h=>h15 h.1)] at hR';have HRF:=Hd hR';have KD:=do_any HM7.out (k:=s'.at_) (i:=i) HD.out;rw [show dvM c i (nxM s')=doM c i (nxM s') from if_neg h15] at KD;clear e6 hM6 hJ hD o1 o2 hP hR hR' hwd hnf hphf HM6 HM5 HM4 HR HP c131 f131 hlen;(go_wp2_with fail);refine KD.mono ?_;rintro e w8 ⟨rfl,v8,hm,-⟩;have HM9:=Hd hm;clear KD hm y0 y1;go_wp2_with fail
    go_roundg f
    case measure=>omega
    case rel=>exact ⟨rfl,Hd ⟨_,v8,HM9.out,HNX.out.1,HNX.out.2.1,HNX.out.2.2.1,HNX.out.2.2.2,HRF.out⟩⟩
  ·have hkn:k=n1:=by omega
   have hlt':(n1:Int)≤(k:Int):=by omega
   have hno:c.ins[s'.at_]?=none:=List.getElem?_eq_none (by rw [← HN.out.1,← HN.out.2.2];omega)
   have HRF:=Hd (show R=(s',true) by
    rw [HR.out];cases gk with
    | zero=>rfl
    | succ f=>rw [rE,hno])
   clear hno hkn hlt;go_wp2_with fail
   go_quiet (fail)
   have oq:Only [] wr (wr.drewN nq):=bU (Only.refl _ _);have HM2:=Hd (HM.out.quiet oq);clear oq c130 c131 c63;(go_wp2_with fail);go_ret;exact ⟨by rw [HRF.out];rfl,v',by rw [HRF.out];exact HM2.out⟩
end
end Go.Proofs.YtcebchffcmpfeaaGreat
