import Derived.Test.YtcebchffcmpfeaaGreatG16t
namespace Go.Proofs.YtcebchffcmpfeaaGreat
set_option linter.unusedVariables false
set_option linter.unusedSimpArgs false
set_option maxRecDepth 100000
set_option maxHeartbeats 16000000
open Go.RowKit Go.Maps
section
variable {w w':World} {v:Value} {ts:List Tok}
theorem rfor_any (h:TS w v ts) {i f:Nat} (hi:i < ts.length) (dp:Nat) (hdp:dp≤12) (hf:2*(ts.length - i)≤f) (IB:kV ts f) (d1:isT ts i [91]=false) (d2:isT ts i [108,101,116]=false) (d3:isT ts i [105,102]=false) (d4:isT ts i [102,111,114]=true) :
  Calls Tryz.prog 61 #[v,.int .i64 (i:Int),.int .i64 (dp:Int)] w (RSt w (bm ts (f+1) i dp)):=by
 obtain ⟨R,hR⟩:∃ R,R=bm ts (f+1) i dp:=⟨_,rfl⟩
 rw [← hR];rw [mX d1 d2 d3 d4] at hR;have hi1:i+1 < ts.length:=aL h.ends hi d4;obtain ⟨rw_,hrw⟩:∃ rw_,rw_=bp ts (i+1):=⟨_,rfl⟩
 have haw:Adv ts (i+1) rw_:=by rw [hrw];exact bY h.ends hi1
 obtain ⟨q1,hq1⟩:∃ q,q=ba ts (ai rw_) [105,110]:=⟨_,rfl⟩
 have ha1:AdvP ts (i+1) q1:=by rw [hq1];exact haw.next.eat h.ends _
 obtain ⟨q2,hq2⟩:∃ q,q=ba ts q1 [48]:=⟨_,rfl⟩
 have ha2:AdvP ts (i+1) q2:=by rw [hq2];exact ha1.eat h.ends _
 obtain ⟨q3,hq3⟩:∃ q,q=ba ts q2 [46,46]:=⟨_,rfl⟩
 have ha3:AdvP ts (i+1) q3:=by rw [hq3];exact ha2.eat h.ends _
 have hq:forP ts i=q3:=by rw [hq3,hq2,hq1,hrw];rfl
 rw [hq,← hrw] at hR;obtain ⟨rn,hrn⟩:∃ rn,rn=uG ts q3:=⟨_,rfl⟩
 have han:Adv ts (i+1) rn:=by rw [hrn];exact ha3.num h.ends
 rw [← hrn] at hR;obtain ⟨rb,hrb⟩:∃ rb,rb=fp ts f (ai rn) dp:=⟨_,rfl⟩
 rw [← hrb] at hR;obtain ⟨b,cap,rfl,c0,c1,c2⟩:=h.at_ hi;have hlen:=h.len;have H:=Hd h;have i0:(0:Int)≤(i:Int):=by omega
 have i1:(i:Int) < (ts.length:Int):=by omega
 obtain ⟨ps,hps⟩:∃ ps,ps=pAt ts i:=⟨_,rfl⟩
 rw [← hps] at c2;have hbl:b < w.heap.size:=World.block_lt_of_cell? _ _ c0;have hbn:b≠w.heap.size:=by omega
 have HPS:=Hd hps;have KI:∀ (W:World),Only [] w W→∀ x:ByteArray,Calls Tryz.prog 59 #[.slice (some ⟨b,0,none⟩) ts.length cap,.int .i64 (i:Int),.string x] W fun e w'=>e=.returned (.bool (isT ts i x.data.toList))∧W=w':=fun W ho x=>bb (h.quiet ho) (.ok i) hi x;have HKI:=Hd KI;clear h hps c0 c1 KI;rw [← HPS.out] at hR;have KW:∀ (W:World),Only [] w W→Calls Tryz.prog 57 #[.slice (some ⟨b,0,none⟩) ts.length cap,.int .i64 ((i:Int)+1)] W fun e w'=>e=.returned (.tuple #[.string (aj (iZ rw_)),.int .i64 (zR rw_)])∧W=w':=fun W ho=>by
  have:=eu (H.out.quiet ho) (.ok (i+1)) hi1;rw [show fC ts (.ok (i+1))=rw_ from hrw.symm,show zP (.ok (i+1))=(i:Int)+1 from by show ((i+1:Nat):Int)=_;omega] at this;exact this
 have K1:∀ (W:World),Only [] w W→Calls Tryz.prog 58 #[.slice (some ⟨b,0,none⟩) ts.length cap,.int .i64 (zR rw_),.string ⟨#[105,110]⟩] W fun e w'=>e=.returned (.int .i64 (zP q1))∧W=w':=fun W ho=>by
  have:=aH (H.out.quiet ho) (ai rw_) haw.next.ok ⟨#[105,110]⟩;rw [← bs,show ba ts (ai rw_) (⟨#[105,110]⟩:ByteArray).data.toList=q1 from hq1.symm] at this;exact this
 have K2:∀ (W:World),Only [] w W→Calls Tryz.prog 58 #[.slice (some ⟨b,0,none⟩) ts.length cap,.int .i64 (zP q1),.string ⟨#[48]⟩] W fun e w'=>e=.returned (.int .i64 (zP q2))∧W=w':=fun W ho=>by
  have:=aH (H.out.quiet ho) q1 ha1.ok ⟨#[48]⟩;rw [show ba ts q1 (⟨#[48]⟩:ByteArray).data.toList=q2 from hq2.symm] at this;exact this
 have K3:∀ (W:World),Only [] w W→Calls Tryz.prog 58 #[.slice (some ⟨b,0,none⟩) ts.length cap,.int .i64 (zP q2),.string ⟨#[46,46]⟩] W fun e w'=>e=.returned (.int .i64 (zP q3))∧W=w':=fun W ho=>by
  have:=aH (H.out.quiet ho) q2 ha2.ok ⟨#[46,46]⟩;rw [show ba ts q2 (⟨#[46,46]⟩:ByteArray).data.toList=q3 from hq3.symm] at this;exact this
 have KN:∀ (W:World),Only [] w W→Calls Tryz.prog 91 #[.slice (some ⟨b,0,none⟩) ts.length cap,.int .i64 (zP q3)] W fun e w'=>e=.returned (.tuple #[.int .i64 (valI rn),.int .i64 (zR rn)])∧W=w':=fun W ho=>by
  have:=qT (H.out.quiet ho) q3 ha3.ok;rw [← hrn] at this;exact this
 have KB:∀ (W:World),Only [] w W→Calls Tryz.prog 90 #[.slice (some ⟨b,0,none⟩) ts.length cap,.int .i64 (zR rn),.int .i64 (dp:Int)] W (RBl W rb):=fun W ho=>by
  have:=IB W _ (ai rn) dp (H.out.quiet ho) han.next.ok (fun j hj=>by
   have h9:=han.next;rw [hj] at h9;have:=h9.1
   omega) hdp
  rw [← bs,← hrb] at this;exact this
 obtain ⟨sn,hsn⟩:∃ sn,sn=aj (iZ rw_):=⟨_,rfl⟩
 rw [← hsn] at KW;obtain ⟨nn,hnn⟩:∃ nn,nn=valI rn:=⟨_,rfl⟩
 rw [← hnn] at KN;obtain ⟨bx,hbx⟩:∃ bx,bx=zR rb:=⟨_,rfl⟩
 have HBX:=Hd hbx;have HSN:=Hd hsn;rw [← hnn] at hR;have HKW:=Hd KW;have HK1:=Hd K1;have HK2:=Hd K2;have HK3:=Hd K3;have HKN:=Hd KN;have HKB:=Hd KB;have HR:=Hd hR;clear KW K1 K2 K3 KN KB hR hsn hnn hbx hrw hq1 hq2 hq3 hq hrn hrb haw ha1 ha2 ha3 han;generalize zR rw_=z0 at HKW HK1;generalize zP q1=z1 at HK1 HK2;generalize zP q2=z2 at HK2 HK3;generalize zP q3=z3 at HK3 HKN;generalize zR rn=z4 at HKN HKB
 go_enter Tryz.func61,Tryz.ntmps61
 go_wp2_with fail
 refine cp (fun w3 hA3 hB3 o3=>?_);have HA:=Hd hA3;have HB:=Hd hB3;have HO:=Hd o3;have hsz3:w.heap.size+1 < w3.heap.size:=(Array.getElem?_eq_some_iff.1 hB3).1;clear hA3 hB3 o3;refine (HKI.out _ HO.out _).mono ?_;rintro e w' ⟨rfl,rfl⟩;rw [show isT ts i (⟨#[91]⟩:ByteArray).data.toList=false from d1];go_wp2_with fail
 refine (HKI.out _ HO.out _).mono ?_;rintro e w' ⟨rfl,rfl⟩;rw [show isT ts i (⟨#[108,101,116]⟩:ByteArray).data.toList=false from d2];go_wp2_with fail
 refine (HKI.out _ HO.out _).mono ?_;rintro e w' ⟨rfl,rfl⟩;rw [show isT ts i (⟨#[105,102]⟩:ByteArray).data.toList=false from d3];go_wp2_with fail
 refine (HKI.out _ HO.out _).mono ?_;rintro e w' ⟨rfl,rfl⟩;rw [show isT ts i (⟨#[102,111,114]⟩:ByteArray).data.toList=true from d4];clear d1 d2 d3 d4;have b0:w3.cell? ⟨w.heap.size+1,0,none⟩=some (.int .i64 0):=ab 0 HB.out;have gb:=ae 0 HB.out;go_wp2_with fail
 clear b0 gb;have og:Only [w.heap.size+1] w3 (w3.setCell ⟨w.heap.size+1,0,none⟩ (.int .i64 7)):=oc;have hBg:=af (i:=0) (.int .i64 7) HB.out;have hAg:=og.heap HA.out (by simp);generalize w3.setCell ⟨w.heap.size+1,0,none⟩ (.int .i64 7)=w4 at og hBg hAg⊢;replace HO:=Hd (HO.out.trans (T:=[w.heap.size+1]) og (fun k hk=>.inr (by rw [List.mem_singleton.1 hk];omega)));replace HA:=Hd hAg;replace HB:=Hd hBg;have HOG0:=Hd og;clear og hAg hBg;refine (HKW.out _ HO.out).mono ?_;rintro e w' ⟨rfl,rfl⟩;go_wp2_with fail
 refine (HK1.out _ HO.out).mono ?_;rintro e w' ⟨rfl,rfl⟩;go_wp2_with fail
 refine (HK2.out _ HO.out).mono ?_;rintro e w' ⟨rfl,rfl⟩;go_wp2_with fail
 refine (HK3.out _ HO.out).mono ?_;rintro e w' ⟨rfl,rfl⟩;go_wp2_with fail
 refine (HKN.out _ HO.out).mono ?_;rintro e w' ⟨rfl,rfl⟩;have b1:w4.cell? ⟨w.heap.size+1,1,none⟩=some (.string ⟨#[]⟩):=ab 1 HB.out;have gb1:=ae 1 HB.out;go_upto_region 25 with (fail)
 clear b1 gb1;have og:Only [w.heap.size+1] w4 (w4.setCell ⟨w.heap.size+1,1,none⟩ (.string sn)):=oc;have hBg:=af (i:=1) (.string sn) HB.out;have hAg:=og.heap HA.out (by simp);generalize w4.setCell ⟨w.heap.size+1,1,none⟩ (.string sn)=w5 at og hBg hAg⊢;replace HO:=Hd (HO.out.trans (T:=[w.heap.size+1]) og (fun k hk=>.inr (by rw [List.mem_singleton.1 hk];omega)));replace HA:=Hd hAg;replace HB:=Hd hBg;have HOG1:=Hd og;clear og hAg hBg;have b3:w5.cell? ⟨w.heap.size+1,3,none⟩=some (.int .i64 0):=ab 3 HB.out;have gb3:=ae 3 HB.out;go_upto_region 26 with (fail)
 clear b3 gb3;have og:Only [w.heap.size+1] w5 (w5.setCell ⟨w.heap.size+1,3,none⟩ (.int .i64 nn)):=oc;have hBg:=af (i:=3) (.int .i64 nn) HB.out;have hAg:=og.heap HA.out (by simp);generalize w5.setCell ⟨w.heap.size+1,3,none⟩ (.int .i64 nn)=w6 at og hBg hAg⊢;replace HO:=Hd (HO.out.trans (T:=[w.heap.size+1]) og (fun k hk=>.inr (by rw [List.mem_singleton.1 hk];omega)));replace HA:=Hd hAg;replace HB:=Hd hBg;have HOG3:=Hd og;clear og hAg hBg;have hz6:w3.heap.size≤w6.heap.size:=Nat.le_trans HOG0.out.size (Nat.le_trans HOG1.out.size HOG3.out.size);go_wp2_with fail
 refine (HKB.out _ HO.out).mono ?_;rintro e wf ⟨a3,l3,c3,rfl,hvb,of_⟩;replace HO:=Hd (HO.out.trans of_ (by simp));replace HA:=Hd (of_.heap HA.out (by simp));replace HB:=Hd (of_.heap HB.out (by simp));have HVB:=Hd (show ∀ t j,rb=.ok (t,j)→SsV wf (fun b=>w.heap.size+1 < b) (.slice a3 l3 c3) t from fun t j hj=>(hvb t j hj).kept (Only.refl [] wf) (by simp) (fun b hb=>by have:w6.heap.size≤b:=hb;omega));have hzf:w6.heap.size≤wf.heap.size:=of_.size;have b4:wf.cell? ⟨w.heap.size+1,4,none⟩=some (.slice none 0 0):=ab 4 HB.out;have gb4:=ae 4 HB.out;rw [← HBX.out];clear hvb of_;go_upto_region 27 with (fail)
 clear b4 gb4;have og:Only [w.heap.size+1] wf (wf.setCell ⟨w.heap.size+1,4,none⟩ (.slice a3 l3 c3)):=oc;have hBg:=af (i:=4) (.slice a3 l3 c3) HB.out;have hAg:=og.heap HA.out (by simp);generalize wf.setCell ⟨w.heap.size+1,4,none⟩ (.slice a3 l3 c3)=wg at og hBg hAg⊢;replace HO:=Hd (HO.out.trans (T:=[w.heap.size+1]) og (fun k hk=>.inr (by rw [List.mem_singleton.1 hk];omega)));replace HA:=Hd hAg;replace HB:=Hd hBg;have HOG4:=Hd og;clear og hAg hBg;replace HVB:=Hd (fun t j hj=>(HVB.out t j hj).kept HOG4.out (fun k hk hB=>by rw [List.mem_singleton.1 hk] at hB;exact absurd hB (by omega)) (fun _ h=>h));have s0:wg.cell? ⟨w.heap.size,0,none⟩=some (.int .i64 0):=ab 0 HA.out;have s1:wg.cell? ⟨w.heap.size,1,none⟩=some (.string ⟨#[]⟩):=ab 1 HA.out;have s2:wg.cell? ⟨w.heap.size,2,none⟩=some (.slice none 0 0):=ab 2 HA.out;have s3:wg.cell? ⟨w.heap.size,3,none⟩=some (.int .i64 0):=ab 3 HA.out;have s4:wg.cell? ⟨w.heap.size,4,none⟩=some (.slice none 0 0):=ab 4 HA.out;have s5:wg.cell? ⟨w.heap.size,5,none⟩=some (.slice none 0 0):=ab 5 HA.out;have s6:wg.cell? ⟨w.heap.size,6,none⟩=some (.int .i64 0):=ab 6 HA.out;have gs0:=ae 0 HA.out;have gs1:=ae 1 HA.out;have gs2:=ae 2 HA.out;have gs3:=ae 3 HA.out;have gs4:=ae 4 HA.out;have gs5:=ae 5 HA.out;have gs6:=ae 6 HA.out;have b0:wg.cell? ⟨w.heap.size+1,0,none⟩=some (.int .i64 7):=ab 0 HB.out;have b1:wg.cell? ⟨w.heap.size+1,1,none⟩=some (.string sn):=ab 1 HB.out;have b2:wg.cell? ⟨w.heap.size+1,2,none⟩=some (.slice none 0 0):=ab 2 HB.out;have b3:wg.cell? ⟨w.heap.size+1,3,none⟩=some (.int .i64 nn):=ab 3 HB.out;have b4:wg.cell? ⟨w.heap.size+1,4,none⟩=some (.slice a3 l3 c3):=ab 4 HB.out;have b5:wg.cell? ⟨w.heap.size+1,5,none⟩=some (.slice none 0 0):=ab 5 HB.out;have b6:wg.cell? ⟨w.heap.size+1,6,none⟩=some (.int .i64 (ps:Int)):=ab 6 HB.out;go_wp2_with fail
 have oz:Only [w.heap.size] wg (((((((wg.setCell ⟨w.heap.size,0,none⟩ (.int .i64 7)).setCell ⟨w.heap.size,1,none⟩ (.string sn)).setCell ⟨w.heap.size,2,none⟩ (.slice none 0 0)).setCell ⟨w.heap.size,3,none⟩ (.int .i64 nn)).setCell ⟨w.heap.size,4,none⟩ (.slice a3 l3 c3)).setCell ⟨w.heap.size,5,none⟩ (.slice none 0 0)).setCell ⟨w.heap.size,6,none⟩ (.int .i64 (ps:Int))):=oc;have hz:=aZ HA.out (.int .i64 7) (.string sn) (.slice none 0 0) (.int .i64 nn) (.slice a3 l3 c3) (.slice none 0 0) (.int .i64 (ps:Int));generalize ((((((wg.setCell ⟨w.heap.size,0,none⟩ (.int .i64 7)).setCell ⟨w.heap.size,1,none⟩ (.string sn)).setCell ⟨w.heap.size,2,none⟩ (.slice none 0 0)).setCell ⟨w.heap.size,3,none⟩ (.int .i64 nn)).setCell ⟨w.heap.size,4,none⟩ (.slice a3 l3 c3)).setCell ⟨w.heap.size,5,none⟩ (.slice none 0 0)).setCell ⟨w.heap.size,6,none⟩ (.int .i64 (ps:Int))=wz at oz hz⊢;(try simp only [Exit.inBlock,Exit.then]);refine bodyPost_ret (eL _ _ w.heap.size _ _ _ _ _ _ _ (.int .i64 bx) rfl rfl hz) rfl ?_;refine ⟨7,nn,ps,sn,none,a3,none,0,l3,0,0,c3,0,by rw [HR.out,mapR_z,HBX.out],fun s j hs=>?_,?_⟩
 ·rw [HR.out] at hs;obtain ⟨t,ht,rfl⟩:=uV hs;have e5:=SV.mk' (w:=wg) (B:=fun b=>w.heap.size+1 < b) (k:=7) (n:=nn) (p:=ps) (nm:=iZ rw_) (EsV.nil _ _) (HVB.out t j ht) (SsV.nil _ _);rw [← HSN.out] at e5;refine SV.kept (S:=[w.heap.size]) oz (fun k hk hB=>?_) (fun b hb=>?_) _ _ e5
  ·rw [List.mem_singleton.1 hk] at hB;exact absurd hB (by omega)
  ·show w.heap.size≤b;have:w.heap.size+1 < b:=hb;omega
 ·exact HO.out.trans (T:=[w.heap.size]) oz (fun k hk=>.inr (by rw [List.mem_singleton.1 hk];exact Nat.le_refl _))
theorem sD (h:TS w v ts) {i:Nat} (hi:i < ts.length) (dp:Nat) (hdp:dp≤13) (d1:isT ts i [91]=true) :
  Calls Tryz.prog 61 #[v,.int .i64 (i:Int),.int .i64 (dp:Int)] w (RSt w (dE ts i dp)):=by
 obtain ⟨b,cap,rfl,c0,c1,c2⟩:=h.at_ hi;have hlen:=h.len;have H:=Hd h;have i0:(0:Int)≤(i:Int):=by omega
 have i1:(i:Int) < (ts.length:Int):=by omega
 obtain ⟨ps,hps⟩:∃ ps,ps=pAt ts i:=⟨_,rfl⟩
 rw [← hps] at c2;have hbl:b < w.heap.size:=World.block_lt_of_cell? _ _ c0;have hbn:b≠w.heap.size:=by omega
 have HPS:=Hd hps;have KI:∀ (W:World),Only [] w W→∀ x:ByteArray,Calls Tryz.prog 59 #[.slice (some ⟨b,0,none⟩) ts.length cap,.int .i64 (i:Int),.string x] W fun e w'=>e=.returned (.bool (isT ts i x.data.toList))∧W=w':=fun W ho x=>bb (h.quiet ho) (.ok i) hi x;have HKI:=Hd KI;clear h hps c0 c1 KI;have KC:∀ (W:World),Only [] w W→Calls Tryz.prog 89 #[.slice (some ⟨b,0,none⟩) ts.length cap,.int .i64 (i:Int),.int .i64 (dp:Int)] W (RSt W (dE ts i dp)):=fun W ho=>uT (H.out.quiet ho) hi dp hdp;have HKC:=Hd KC;clear KC
 go_enter Tryz.func61,Tryz.ntmps61
 go_wp2_with fail
 refine cp (fun w3 hA3 hB3 o3=>?_);have HA:=Hd hA3;have HB:=Hd hB3;have HO:=Hd o3;have hsz3:w.heap.size+1 < w3.heap.size:=(Array.getElem?_eq_some_iff.1 hB3).1;clear hA3 hB3 o3;refine (HKI.out _ HO.out _).mono ?_;rintro e w' ⟨rfl,rfl⟩;rw [show isT ts i (⟨#[91]⟩:ByteArray).data.toList=true from d1];clear d1;go_wp2_with fail
 refine (HKC.out _ HO.out).mono ?_;rintro e w4 ⟨k,n,p,s,a1,a2,a3,l1,l2,l3,c1,c2',c3,rfl,hv,o4⟩;replace HO:=Hd (HO.out.trans o4 (by simp));replace HA:=Hd (o4.heap HA.out (by simp));have HV:=Hd hv;clear hv o4;have s0:w4.cell? ⟨w.heap.size,0,none⟩=some (.int .i64 0):=ab 0 HA.out;have s1:w4.cell? ⟨w.heap.size,1,none⟩=some (.string ⟨#[]⟩):=ab 1 HA.out;have s2:w4.cell? ⟨w.heap.size,2,none⟩=some (.slice none 0 0):=ab 2 HA.out;have s3:w4.cell? ⟨w.heap.size,3,none⟩=some (.int .i64 0):=ab 3 HA.out;have s4:w4.cell? ⟨w.heap.size,4,none⟩=some (.slice none 0 0):=ab 4 HA.out;have s5:w4.cell? ⟨w.heap.size,5,none⟩=some (.slice none 0 0):=ab 5 HA.out;have s6:w4.cell? ⟨w.heap.size,6,none⟩=some (.int .i64 0):=ab 6 HA.out;have gs0:=ae 0 HA.out;have gs1:=ae 1 HA.out;have gs2:=ae 2 HA.out;have gs3:=ae 3 HA.out;have gs4:=ae 4 HA.out;have gs5:=ae 5 HA.out;have gs6:=ae 6 HA.out;go_wp2_with fail
 have oz:Only [w.heap.size] w4 (((((((w4.setCell ⟨w.heap.size,0,none⟩ (.int .i64 k)).setCell ⟨w.heap.size,1,none⟩ (.string s)).setCell ⟨w.heap.size,2,none⟩ (.slice a1 l1 c1)).setCell ⟨w.heap.size,3,none⟩ (.int .i64 n)).setCell ⟨w.heap.size,4,none⟩ (.slice a2 l2 c2')).setCell ⟨w.heap.size,5,none⟩ (.slice a3 l3 c3)).setCell ⟨w.heap.size,6,none⟩ (.int .i64 p)):=oc;have hz:=aZ HA.out (.int .i64 k) (.string s) (.slice a1 l1 c1) (.int .i64 n) (.slice a2 l2 c2') (.slice a3 l3 c3) (.int .i64 p);generalize ((((((w4.setCell ⟨w.heap.size,0,none⟩ (.int .i64 k)).setCell ⟨w.heap.size,1,none⟩ (.string s)).setCell ⟨w.heap.size,2,none⟩ (.slice a1 l1 c1)).setCell ⟨w.heap.size,3,none⟩ (.int .i64 n)).setCell ⟨w.heap.size,4,none⟩ (.slice a2 l2 c2')).setCell ⟨w.heap.size,5,none⟩ (.slice a3 l3 c3)).setCell ⟨w.heap.size,6,none⟩ (.int .i64 p)=wz at oz hz⊢;(try simp only [Exit.inBlock,Exit.then]);refine bodyPost_ret (eL _ _ w.heap.size _ _ _ _ _ _ _ (.int .i64 (zR (dE ts i dp))) rfl rfl hz) rfl ?_;refine ⟨k,n,p,s,a1,a2,a3,l1,l2,l3,c1,c2',c3,rfl,fun t j ht=>?_,?_⟩
 ·refine SV.kept (S:=[w.heap.size]) oz (fun k hk hB=>?_) (fun b hb=>?_) _ _ (HV.out t j ht)
  ·rw [List.mem_singleton.1 hk] at hB;exact absurd (show w3.heap.size≤w.heap.size from hB) (by omega)
  ·show w.heap.size≤b;have:w3.heap.size≤b:=hb;omega
 ·exact HO.out.trans (T:=[w.heap.size]) oz (fun k hk=>.inr (by rw [List.mem_singleton.1 hk];exact Nat.le_refl _))
theorem sE (f:Nat) (IB:kV ts f):StmtC ts (f+1):=by
 intro w v i dp h hi hf hdp;cases d1:isT ts i [91] with
 | true=>rw [kT d1];exact sD h hi dp (by omega) d1
 | false=>
  cases d2:isT ts i [108,101,116] with
  | true=>rw [mY d1 d2];exact rlet_any h hi dp (by omega) d1 d2
  | false=>
   cases d3:isT ts i [105,102] with
   | true=>exact rif_any h hi dp hdp (by omega) IB d1 d2 d3
   | false=>
    cases d4:isT ts i [102,111,114] with
    | true=>exact rfor_any h hi dp hdp (by omega) IB d1 d2 d3 d4
    | false=>rw [ib d1 d2 d3 d4];exact uU h hi dp (by omega) d1 d2 d3 d4
end
theorem kA {w:World} (base:Nat) (ty:TypeId) (v:Value) (m:Nat) (vs:List Value) (hown:w.ownsRow base 113 7 v m vs) (bx capx:Nat) (k n p:Int) (s:ByteArray) (a1 a2 a3:Option Addr) (l1 l2 l3 c1 c2 c3:Nat)
  (hc:∀ j u,[.int .i64 k,.string s,.slice a1 l1 c1,.int .i64 n,.slice a2 l2 c2,.slice a3 l3 c3,.int .i64 p][j]?=some u→w.cell? ⟨bx,j,none⟩=some u) (hn:m≤1048576) (hb:base≤w.heap.size) :
  ∃ a cap w',(Builtin.append_ #[58,58] ty #[v,.slice (some ⟨bx,0,none⟩) 1 capx]).run Tryz.prog w=.ok (.slice a (m+1) cap) w'∧
   w'.ownsRow base 113 7 (.slice a (m+1) cap) (m+1) (vs++[.int .i64 k,.string s,.slice a1 l1 c1,.int .i64 n,.slice a2 l2 c2,.slice a3 l3 c3,.int .i64 p])∧Only v.ownBlock.toList w w'∧
   ((Value.slice a (m+1) cap).ownBlock=v.ownBlock∨(Value.slice a (m+1) cap).ownBlock=some w.heap.size):=by
 obtain ⟨i,hi,hz⟩:=Option.map_eq_some_iff.1 info_st;simp only [Prod.mk.injEq] at hz;obtain ⟨z1,z2,z3⟩:=hz;have hcell:∀ (j:Nat) (u:Value),([.int .i64 k,.string s,.slice a1 l1 c1,.int .i64 n,.slice a2 l2 c2,.slice a3 l3 c3,.int .i64 p]:List Value)[j]?=some u→w.cell? ((⟨bx,0,none⟩:Addr).add j)=some u:=fun j u hj=>by
  have:(⟨bx,0,none⟩:Addr).add j=⟨bx,j,none⟩:=by simp [Addr.add];exact fun e=>e.symm
  rw [this];exact hc j u hj
 obtain ⟨v',w',hr,k1,k2,_,k5⟩:=run_append_own_at (P:=Tryz.prog) w base 58 ty 113 i (.agg #[.int .i64 0,.string ⟨#[]⟩,.slice none 0 0,.int .i64 0,.slice none 0 0,.slice none 0 0,.int .i64 0]) 7 112 Tryz.underlying58 hi z1 z2 z3 rfl (by omega) v m vs hown ⟨bx,0,none⟩ 1 capx [.int .i64 k,.string s,.slice a1 l1 c1,.int .i64 n,.slice a2 l2 c2,.slice a3 l3 c3,.int .i64 p] rfl hcell (by simp [Value.oneCell']) (by unfold maxLen;omega) (by omega) hb;have hsh:∃ a cap,v'=.slice a (m+1) cap:=by
  rcases k1.2 with ⟨_,hn⟩ | ⟨g,cap,cur,rfl,_⟩
  ·omega
  ·exact ⟨_,_,rfl⟩
 obtain ⟨a,cap,rfl⟩:=hsh;exact ⟨a,cap,w',hr,k1,Only.of_grown k2,k5⟩
section
variable {w:World} {ops:Array Oper} {rest:List Oper} {o:Oper} {a:Act} {Q:Exit→Act→World→Prop}
theorem ef (hg:o.guard=none) (s x:Operand) (hop:o.op=Op.call {callee:=Callee.builtin Builtin.append,args:=#[s,x],argTypes:=#[58,58] })
  (base:Nat) (v:Value) (m:Nat) (vs:List Value) (hs:a.eval s=v) (hown:w.ownsRow base 113 7 v m vs) (bx capx:Nat) (hx:a.eval x=.slice (some ⟨bx,0,none⟩) 1 capx) (k n p:Int) (sb:ByteArray) (a1 a2 a3:Option Addr) (l1 l2 l3 c1 c2 c3:Nat)
  (hc:∀ j u,[.int .i64 k,.string sb,.slice a1 l1 c1,.int .i64 n,.slice a2 l2 c2,.slice a3 l3 c3,.int .i64 p][j]?=some u→w.cell? ⟨bx,j,none⟩=some u) (hn:m≤1048576) (hb:base≤w.heap.size)
  (hK:∀ a' cap w',w'.ownsRow base 113 7 (.slice a' (m+1) cap) (m+1) (vs++[.int .i64 k,.string sb,.slice a1 l1 c1,.int .i64 n,.slice a2 l2 c2,.slice a3 l3 c3,.int .i64 p])→Only v.ownBlock.toList w w'→
   ((Value.slice a' (m+1) cap).ownBlock=v.ownBlock∨(Value.slice a' (m+1) cap).ownBlock=some w.heap.size)→wpList Tryz.prog ops Q rest (a.put o.dst (.slice a' (m+1) cap)) w') :
  wpList Tryz.prog ops Q (o :: rest) a w:=by
 refine wpList_plain hg fun K' hK'=>?_;obtain ⟨a',cap,w',hrun,k1,k2,k3⟩:=kA base o.type v m vs hown bx capx k n p sb a1 a2 a3 l1 l2 l3 c1 c2 c3 hc hn hb;unfold Oper.wp;simp [execOp,hop,resolve,invoke,builtin,hs,hx,hrun,Result.andThen];exact hK' _ _ (hK _ _ w' k1 k2 k3)
end
theorem closeL_z (ts:List Tok) (r:Except Nat (List St×Nat)):zR (f6 ts r)=zP (ba ts (ai r) [125]):=by
 cases r with
 | error k=>rfl
 | ok y=>
  obtain ⟨t,a⟩:=y;show zR (match bE ts a [125] with | .error k=>.error k | .ok b=>.ok (t,b))=zP (bE ts a [125]);cases bE ts a [125]<;>rfl
theorem uX {ts:List Tok} {r:Except Nat (List St×Nat)} {s:List St} {j:Nat} (h:f6 ts r=.ok (s,j)):∃ a,r=.ok (s,a):=by
 cases r with
 | error k=>cases h
 | ok y=>
  obtain ⟨t',a⟩:=y;unfold f6 at h;cases hc:bE ts a [125]<;>simp [hc] at h
  exact ⟨a,by rw [h.1]⟩
theorem pI {ts:List Tok} {f i dp a:Nat} {s:St} (h:isT ts i [125]=false) (e:bm ts f i dp=.ok (s,a)):aR ts (f+1) i dp=ey (s :: ·) (aR ts f a dp):=by
 conv=>lhs;unfold aR
 rw [if_neg (by rw [h];decide),e];dsimp only;cases aR ts f a dp<;>rfl
theorem sF {ts:List Tok} {f i dp k:Nat} (h:isT ts i [125]=false) (e:bm ts f i dp=.error k):aR ts (f+1) i dp=.error k:=by
 conv=>lhs;unfold aR
 rw [if_neg (by rw [h];decide),e]
theorem uY (l0:List St) (s:St) (x:Except Nat (List St×Nat)):ey (l0++·) (ey (s :: ·) x)=ey ((l0++[s])++·) x:=by
 cases x with
 | error k=>rfl
 | ok y=>simp [ey]
def stP (ts:List Tok) (f:Nat) (q:Except Nat Nat) (dp:Nat):Except Nat (List St×Nat):=match q with | .ok i=>aR ts f i dp | .error k=>.error k
structure LB (ts:List Tok) (w:World) (R:Except Nat (List St×Nat)) (dp f:Nat) (wr:World) (z:Int) (v8:Value):Prop where
 only:Only [] w wr
 now:(∃ (f' i:Nat) (l0:List St),z=(i:Int)∧i < ts.length∧l0.length≤i∧2*(ts.length - i)+2≤f'∧f'≤f∧dp+1≤12∧R=ey (l0++·) (aR ts f' i (dp+1))∧OSt wr w.heap.size v8 l0)∨
  (∃ (k:Nat) (a:Option Addr) (l c:Nat),z=-1 - (k:Int)∧k < ts.length∧v8=.slice a l c∧R=.error k)
theorem OSt.shape {w:World} {base:Nat} {v:Value} {l:List St} (h:OSt w base v l):∃ a cap,v=.slice a l.length cap:=by
 obtain ⟨a,cap,h1,_⟩:=h.ssv;exact ⟨a,cap,h1⟩
section
variable {w w':World} {v:Value} {ts:List Tok}
theorem uZ (h:TS w v ts) {i:Nat} (hi:i < ts.length) (dp:Nat) (h12:12≤dp) (hx:isT ts i [123]=true) :
  Calls Tryz.prog 90 #[v,.int .i64 (i:Int),.int .i64 (dp:Int)] w (RBl w (.error i)):=by
 obtain ⟨a,cap,rfl⟩:=h.shape;have hlen:=h.len;have KI:∀ x:ByteArray,Calls Tryz.prog 59 #[.slice a ts.length cap,.int .i64 (i:Int),.string x] w fun e w'=>e=.returned (.bool (isT ts i x.data.toList))∧w=w':=fun x=>bb h (.ok i) hi x;have h12':(12:Int)≤(dp:Int):=by omega
 clear h
 go_enter Tryz.func90,Tryz.ntmps90
 go_wp2_with fail
 refine (KI _).mono ?_;rintro e w' ⟨rfl,rfl⟩;rw [show isT ts i (⟨#[123]⟩:ByteArray).data.toList=true from hx];go_wp2_with fail
 refine (bZ i (by omega) _).mono ?_;rintro e w' ⟨rfl,rfl⟩;go_wp2_with fail
 go_ret2
 exact ⟨none,0,0,rfl,(fun t j h=>by cases h),Only.refl _ _⟩
theorem sG {ts:List Tok} {j:Nat} (hj:j < ts.length) {r:Except Nat (St×Nat)} (h:Adv ts j r) :
  (if intOf (.int .i64 (zR r)) < 0 then 0 else ts.length+1 - (intOf (.int .i64 (zR r))).toNat) < if intOf (.int .i64 (j:Int)) < 0 then 0 else ts.length+1 - (intOf (.int .i64 (j:Int))).toNat:=by
 have e1:intOf (.int .i64 (j:Int))=(j:Int):=rfl;rw [e1,if_neg (show ¬ (j:Int) < 0 by omega)];cases r with
 | error k=>
  have e2:intOf (.int .i64 (zR (.error k:Except Nat (St×Nat))))=-1 - (k:Int):=rfl;rw [e2,if_pos (show -1 - (k:Int) < 0 by omega)];omega
 | ok y=>
  obtain ⟨t2,b2⟩:=y;have hb:j < b2∧b2 < ts.length:=h;have e2:intOf (.int .i64 (zR (.ok (t2,b2):Except Nat (St×Nat))))=(b2:Int):=rfl;rw [e2,if_neg (show ¬ (b2:Int) < 0 by omega)];omega
theorem jw (h:TS w v ts) (p:Except Nat Nat) (hp:aM ts p) (f dp:Nat) (hdp:dp≤12) (hb:¬ (12≤dp∧isP ts p [123]=true)) (hfu:∀ i,ba ts p [123]=.ok i→2*(ts.length - i)+2≤f∧dp+1≤12) (IS:∀ g,g < f→StmtC ts g) :
  Calls Tryz.prog 90 #[v,.int .i64 (zP p),.int .i64 (dp:Int)] w (RBl w (f6 ts (stP ts f (ba ts p [123]) (dp+1)))):=by
 obtain ⟨a,cap,rfl⟩:=h.shape;have hlen:=h.len;have H:=Hd h;obtain ⟨q,hq⟩:∃ q,q=ba ts p [123]:=⟨_,rfl⟩
 have hpq:aM ts q:=by rw [hq];exact cV h.ends hp _
 rw [← hq] at hfu⊢;obtain ⟨R0,hR0⟩:∃ R0,R0=stP ts f q (dp+1):=⟨_,rfl⟩
 rw [← hR0];obtain ⟨RC,hRC⟩:∃ RC,RC=f6 ts R0:=⟨_,rfl⟩
 rw [← hRC];have HRC:=Hd hRC;have KI:Calls Tryz.prog 59 #[.slice a ts.length cap,.int .i64 (zP p),.string ⟨#[123]⟩] w fun e w'=>e=.returned (.bool (isP ts p [123]))∧w=w':=bb h p hp ⟨#[123]⟩;have KT:Calls Tryz.prog 58 #[.slice a ts.length cap,.int .i64 (zP p),.string ⟨#[123]⟩] w fun e w'=>e=.returned (.int .i64 (zP q))∧w=w':=by
  have:=aH h p hp ⟨#[123]⟩;rw [show ba ts p (⟨#[123]⟩:ByteArray).data.toList=q from hq.symm] at this;exact this
 have hL:LB ts w R0 dp f w (zP q) (.slice none 0 0):=by
  refine ⟨Only.refl _ _,?_⟩;cases q with
  | error k=>exact .inr ⟨k,none,0,0,rfl,hpq,rfl,hR0⟩
  | ok i=>
   have:=hfu i rfl;refine .inl ⟨f,i,[],rfl,hpq,by simp,this.1,Nat.le_refl _,this.2,?_,OSt.nil _ _⟩;rw [hR0];show aR ts f i (dp+1)=_;cases aR ts f i (dp+1) with
   | error k=>rfl
   | ok y=>rfl
 have HL0:=Hd hL;have HKI:=Hd KI;have HKT:=Hd KT;generalize zP p=zp at HKI HKT⊢;generalize isP ts p [123]=bx at HKI hb;clear h hp hL hq hR0 hRC KI KT hfu hpq
 go_enter Tryz.func90,Tryz.ntmps90
 by_cases h12:12≤dp
 ·have h12':(12:Int)≤(dp:Int):=by omega
  obtain rfl:bx=false:=by
   cases bx
   ·rfl
   ·exact absurd ⟨h12,rfl⟩ hb
  clear hb;go_wp2_with fail
  refine HKI.out.mono ?_;rintro e w' ⟨rfl,rfl⟩;go_wp2_with fail
  refine HKT.out.mono ?_;rintro e w' ⟨rfl,rfl⟩;go_wp2_with fail
  obtain ⟨wo,hwo⟩:∃ wo:World,wo=w:=⟨_,rfl⟩
  go_loopw [1,8] (fun at_ out wr=>∃ (z:Int) (vo:Value),at_=.int .i64 z∧out=vo∧Hid (LB ts w R0 dp f wr z vo)) (fun at_ _ _=>if intOf at_ < 0 then 0 else ts.length+1 - (intOf at_).toNat)
  case atStart=>exact ⟨zP q,_,rfl,rfl,HL0⟩
  case round=>
   clear HL0 HKI HKT;obtain ⟨z,vo,rfl,hvo,L⟩:=hrel;obtain rfl:vo=_:=hvo.symm;rcases L.out.now with ⟨f',j,l0,rfl,hj,hl0,hf1,hf2,hd12,hRj,hv⟩ | ⟨k,a8,l8,c8,hz,hk,rfl,hRe⟩
   ·exact absurd hd12 (by omega)
   ·have hz0:z < 0:=by omega
    have HRE:=Hd (And.intro hRe hz);have KT:Calls Tryz.prog 58 #[.slice a ts.length cap,.int .i64 z,.string ⟨#[125]⟩] wr fun e w'=>e=.returned (.int .i64 z)∧wr=w':=by
     have:=aH (H.out.quiet L.out.only) (.error k) hk ⟨#[125]⟩;rw [show zP (ba ts (.error k) (⟨#[125]⟩:ByteArray).data.toList)=z from hz.symm,show zP (.error k)=z from hz.symm] at this;exact this
    clear hz hRe;(go_wp2_with fail);refine KT.mono ?_;rintro e w' ⟨rfl,rfl⟩;go_wp2_with fail
    go_ret2
    refine ⟨a8,l8,c8,?_,fun t i ht=>?_,L.out.only⟩
    ·rw [HRC.out,HRE.out.1,HRE.out.2];rfl
    ·rw [HRC.out,HRE.out.1] at ht;cases ht
 ·have h12':¬ (12:Int)≤(dp:Int):=by omega
  clear hb;go_wp2_with fail
  refine HKT.out.mono ?_;rintro e w' ⟨rfl,rfl⟩;go_wp2_with fail
  obtain ⟨wo,hwo⟩:∃ wo:World,wo=w:=⟨_,rfl⟩
  go_loopw [1,8] (fun at_ out wr=>∃ (z:Int) (vo:Value),at_=.int .i64 z∧out=vo∧Hid (LB ts w R0 dp f wr z vo)) (fun at_ _ _=>if intOf at_ < 0 then 0 else ts.length+1 - (intOf at_).toNat)
  case atStart=>exact ⟨zP q,_,rfl,rfl,HL0⟩
  case round=>
   clear HL0 HKI HKT;obtain ⟨z,vo,rfl,hvo,L⟩:=hrel;obtain rfl:vo=_:=hvo.symm;rcases L.out.now with ⟨f',j,l0,rfl,hj,hl0,hf1,hf2,hd12,hRj,hv⟩ | ⟨k,a8,l8,c8,hz,hk,rfl,hRe⟩
   ·have j0:(0:Int)≤(j:Int):=by omega
    have HT:=Hd (H.out.quiet L.out.only);have KI:∀ x:ByteArray,Calls Tryz.prog 59 #[.slice a ts.length cap,.int .i64 (j:Int),.string x] wr fun e w'=>e=.returned (.bool (isT ts j x.data.toList))∧wr=w':=fun x=>bb HT.out (.ok j) hj x;obtain ⟨f2,rfl⟩:∃ f2,f'=f2+1:=⟨f' - 1,by omega⟩
    have HV:=Hd hv;have HRj:=Hd hRj;clear hv hRj;cases hd:isT ts j [125] with
    | true=>
     have hR:R0=.ok (l0,j):=by
      rw [HRj.out];unfold aR;rw [if_pos hd];simp [ey]
     have HR:=Hd hR;clear hR;(go_wp2_with fail);refine (KI _).mono ?_;rintro e w' ⟨rfl,rfl⟩;rw [show isT ts j (⟨#[125]⟩:ByteArray).data.toList=true from hd];obtain ⟨a8,c8,rfl⟩:=HV.out.shape;have KT:Calls Tryz.prog 58 #[.slice a ts.length cap,.int .i64 (j:Int),.string ⟨#[125]⟩] wr fun e w'=>e=.returned (.int .i64 (zP (bE ts j [125])))∧wr=w':=aH HT.out (.ok j) hj ⟨#[125]⟩;(go_wp2_with fail);refine KT.mono ?_;rintro e w' ⟨rfl,rfl⟩;go_wp2_with fail
     go_ret2
     refine ⟨a8,l0.length,c8,?_,fun t i ht=>?_,L.out.only⟩
     ·rw [HRC.out,closeL_z,HR.out];rfl
     ·rw [HRC.out] at ht;obtain ⟨a',ha'⟩:=uX ht;rw [HR.out] at ha';cases ha';exact HV.out.ssv
    | false=>
     obtain ⟨r,hr⟩:∃ r,r=bm ts f2 j (dp+1):=⟨_,rfl⟩
     have had:Adv ts j r:=by rw [hr];exact (dn H.out.ends f2).1 j (dp+1) hj
     have KS:∀ W,Only [] wr W→Calls Tryz.prog 61 #[.slice a ts.length cap,.int .i64 (j:Int),.int .i64 ((dp:Int)+1)] W (RSt W r):=fun W ho=>by
      have:=IS f2 (by omega) W _ j (dp+1) (HT.out.quiet ho) hj (by omega) (by omega);rw [← hr,show ((dp+1:Nat):Int)=(dp:Int)+1 by omega] at this;exact this
     have hRn:∀ s a,r=.ok (s,a)→R0=ey ((l0++[s])++·) (aR ts f2 a (dp+1)):=by
      intro s a e;rw [HRj.out,pI hd (hr.symm.trans e),uY]
     have hRf:∀ k,r=.error k→R0=.error k:=by
      intro k e;rw [HRj.out,sF hd (hr.symm.trans e)];rfl
     have HRN:=Hd (And.intro hRn hRf);have HKS:=Hd KS;have HAD:=Hd had;clear hRn hRf KS had hr HRj;(go_wp2_with fail);refine (KI _).mono ?_;rintro e w' ⟨rfl,rfl⟩;rw [show isT ts j (⟨#[125]⟩:ByteArray).data.toList=false from hd];(go_wp2_with fail);refine (HKS.out wr (Only.refl _ _)).mono ?_;rintro e w4 ⟨k,n,p,s,a1,a2,a3,l1,l2,l3,c1,c2,c3,rfl,hv,o4⟩;have HS:=Hd hv;have HO4:=Hd o4;clear hv o4 KI;(go_upto_region 7 with (fail));obtain ⟨w5,q9,o5,hX5,-⟩:=nb w4 (.cells #[.int .i64 k,.string s,.slice a1 l1 c1,.int .i64 n,.slice a2 l2 c2,.slice a3 l3 c3,.int .i64 p] 113);rw [← q9];clear q9;have x0:w5.cell? ⟨w4.heap.size,0,none⟩=some (.int .i64 k):=ab 0 hX5;have x1:w5.cell? ⟨w4.heap.size,1,none⟩=some (.string s):=ab 1 hX5;have x2:w5.cell? ⟨w4.heap.size,2,none⟩=some (.slice a1 l1 c1):=ab 2 hX5;have x3:w5.cell? ⟨w4.heap.size,3,none⟩=some (.int .i64 n):=ab 3 hX5;have x4:w5.cell? ⟨w4.heap.size,4,none⟩=some (.slice a2 l2 c2):=ab 4 hX5;have x5:w5.cell? ⟨w4.heap.size,5,none⟩=some (.slice a3 l3 c3):=ab 5 hX5;have x6:w5.cell? ⟨w4.heap.size,6,none⟩=some (.int .i64 p):=ab 6 hX5;have o6:Only [] w5 (w5.alloc (.cells #[.int .i64 k,.string s,.slice a1 l1 c1,.int .i64 n,.slice a2 l2 c2,.slice a3 l3 c3,.int .i64 p] 113)):=(Only.refl _ _).alloc _;have hY6:=ag w5 (.cells #[.int .i64 k,.string s,.slice a1 l1 c1,.int .i64 n,.slice a2 l2 c2,.slice a3 l3 c3,.int .i64 p] 113);have hwr:wr.heap.size≤w4.heap.size:=HO4.out.size;have ho06:Only [] wr (w5.alloc (.cells #[.int .i64 k,.string s,.slice a1 l1 c1,.int .i64 n,.slice a2 l2 c2,.slice a3 l3 c3,.int .i64 p] 113)):=(HO4.out.trans o5 (by simp)).trans o6 (by simp);have hsz:w.heap.size≤(w5.alloc (.cells #[.int .i64 k,.string s,.slice a1 l1 c1,.int .i64 n,.slice a2 l2 c2,.slice a3 l3 c3,.int .i64 p] 113)).heap.size:=(L.out.only.trans ho06 (by simp)).size;have hown0:∀ g,vo.ownBlock=some g→g < wr.heap.size:=fun g hg=>by
      obtain ⟨css,hown,_⟩:=HV.out;exact (World.ownsRow.lt hown g hg).2
     obtain ⟨css,hown,hcl,hcs⟩:=HV.out.quiet ho06;have HOWN:=Hd hown;have HCS:=Hd (And.intro hcl hcs)
     have HC:=Hd (show ∀ (j:Nat) (u:Value),([.int .i64 k,.string s,.slice a1 l1 c1,.int .i64 n,.slice a2 l2 c2,.slice a3 l3 c3,.int .i64 p]:List Value)[j]?=some u→(w5.alloc (.cells #[.int .i64 k,.string s,.slice a1 l1 c1,.int .i64 n,.slice a2 l2 c2,.slice a3 l3 c3,.int .i64 p] 113)).cell? ⟨w5.heap.size,j,none⟩=some u from fun j u hj=>by
      rw [ab _ hY6]
      simpa using hj)
     have HO456:=Hd (o5.trans o6 (by simp));have HO06:=Hd ho06;have HSZ:=Hd hsz;clear hown hcl hcs hX5 hY6 o5 o6 ho06 hsz
     go_wp2_with (
      refine ef rfl (.tmp 39) (.tmp 41) rfl w.heap.size _ l0.length css.flatten (by rfl) HOWN.out w5.heap.size 1 (by rfl) k n p s a1 a2 a3 l1 l2 l3 c1 c2 c3 HC.out (by omega) HSZ.out ?_;intro a8 c8 w7 how7 ho7 hb7;have HW7:=Hd (And.intro how7 (And.intro ho7 hb7))
      clear how7 ho7 hb7)
     refine ⟨⟨zR r,_,rfl,rfl,Hd ?_⟩,sG hj HAD.out⟩;obtain ⟨how7,ho7,hb7⟩:=HW7.out;have hlt:∀ g,vo.ownBlock=some g→w.heap.size≤g:=fun g hg=>(World.ownsRow.lt HOWN.out g hg).1;refine ⟨(L.out.only.trans HO06.out (by simp)).trans ho7 (fun g hg=>.inr (hlt g (by simpa using hg))),?_⟩;cases r with
     | error k9=>exact .inr ⟨k9,a8,_,c8,rfl,HAD.out.2,rfl,HRN.out.2 k9 rfl⟩
     | ok y=>
      obtain ⟨t,b⟩:=y;have hb:j < b∧b < ts.length:=HAD.out;refine .inl ⟨f2,b,l0++[t],rfl,hb.2,by simp;omega,by omega,by omega,hd12,HRN.out.1 t b rfl,?_⟩;refine OSt.snoc HCS.out.1 HCS.out.2 (SV.kept (HO456.out) (by simp) (fun b hb=>?_) t _ (SV.lt t _ (HS.out t b rfl))) how7 ho7 (hb7.imp id fun e=>⟨_,e,Nat.le_refl _⟩);have h0:w.heap.size≤wr.heap.size:=L.out.only.size;have h1:=HO456.out.size;refine ⟨by have:wr.heap.size≤b:=hb.1;omega,by have:b < w4.heap.size:=hb.2;omega,fun e=>?_⟩;have h3:=hown0 b e;have:wr.heap.size≤b:=hb.1;omega
   ·have hz0:z < 0:=by omega
    have HRE:=Hd (And.intro hRe hz);have KT:Calls Tryz.prog 58 #[.slice a ts.length cap,.int .i64 z,.string ⟨#[125]⟩] wr fun e w'=>e=.returned (.int .i64 z)∧wr=w':=by
     have:=aH (H.out.quiet L.out.only) (.error k) hk ⟨#[125]⟩;rw [show zP (ba ts (.error k) (⟨#[125]⟩:ByteArray).data.toList)=z from hz.symm,show zP (.error k)=z from hz.symm] at this;exact this
    clear hz hRe;(go_wp2_with fail);refine KT.mono ?_;rintro e w' ⟨rfl,rfl⟩;go_wp2_with fail
    go_ret2
    refine ⟨a8,l8,c8,?_,fun t i ht=>?_,L.out.only⟩
    ·rw [HRC.out,HRE.out.1,HRE.out.2];rfl
    ·rw [HRC.out,HRE.out.1] at ht;cases ht
theorem pJ (f:Nat) (IS:∀ g,g < f→StmtC ts g):kV ts f:=by
 intro w v p dp h hp hf hdp;cases p with
 | error k=>
  have:=jw h (.error k) hp f dp hdp (fun e=>by cases e.2) (fun i hi=>by cases hi) IS;exact this
 | ok i=>
  have hf1:=hf i rfl;have hi:i < ts.length:=hp;obtain ⟨f2,rfl⟩:∃ f2,f=f2+1:=⟨f - 1,by omega⟩
  show Calls _ _ _ _ (RBl w (aX ts (f2+1) i dp))
  by_cases hx:isT ts i [123]=true
  ·have e1:ba ts (.ok i) [123]=.ok (i+1):=by
    show bE ts i [123]=_;unfold bE;rw [if_pos hx]
   by_cases h12:12≤dp
   ·rw [jv (fun _=>h12)];exact uZ h hi dp h12 hx
   ·rw [kU hx h12]
    have:=jw h (.ok i) hp f2 dp hdp (fun e=>h12 e.1) (fun j hj=>by
     rw [e1] at hj;cases hj
     exact ⟨by omega,by omega⟩) (fun g hg=>IS g (by omega))
    rw [e1] at this;exact this
  ·have e1:ba ts (.ok i) [123]=.error i:=by
    show bE ts i [123]=_;unfold bE;rw [if_neg hx]
   rw [jv (fun e=>absurd e hx)]
   have:=jw h (.ok i) hp f2 dp hdp (fun e=>hx e.2) (fun j hj=>by
    rw [e1] at hj
    cases hj) (fun g hg=>IS g (by omega))
   rw [e1] at this;exact this
theorem stmt_all (ts:List Tok) (f:Nat):StmtC ts f∧kV ts f:=by
 induction f using Nat.strongRecOn with
 | _ f ih=>
  have hb:kV ts f:=pJ f (fun g hg=>(ih g hg).1);refine ⟨?_,hb⟩;cases f with
  | zero=>intro w v i dp _ _ hf _;omega
  | succ f=>exact sE f (ih f (by omega)).2
theorem u2 (h:TS w v ts) {i:Nat} (hi:i < ts.length) (dp:Nat) (hdp:dp≤12):Calls Tryz.prog 61 #[v,.int .i64 (i:Int),.int .i64 (dp:Int)] w (RSt w (pz ts i dp)):=
 (stmt_all ts _).1 w v i dp h hi (by omega) hdp
end
end Go.Proofs.YtcebchffcmpfeaaGreat
