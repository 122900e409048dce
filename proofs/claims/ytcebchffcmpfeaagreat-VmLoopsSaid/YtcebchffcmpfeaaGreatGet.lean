import Derived.Test.YtcebchffcmpfeaaGreatG12t
namespace Go.Proofs.YtcebchffcmpfeaaGreat
set_option linter.unusedVariables false
set_option linter.unusedSimpArgs false
set_option maxRecDepth 100000
set_option maxHeartbeats 16000000
open Go.RowKit Go.Maps
theorem kS (ts:List Tok) (i dp:Nat):pw ts i dp=cd ts (g8 ts (ba ts (ai (bp ts (i+1))) [61]) dp) [59] (fun e=>.mk 1 (iZ (bp ts (i+1))) [e] 0 [] [] (pAt ts i)):=by
 unfold pw;cases hw:bp ts (i+1) with
 | error k=>rfl
 | ok x=>
  obtain ⟨s,a⟩:=x;dsimp only [ai,ba,iZ];cases bE ts a [61] with
  | error k=>rfl
  | ok a=>
   dsimp only [g8];unfold cd;cases br ts a dp<;>rfl
section
variable {w w':World} {v:Value} {ts:List Tok}
theorem uU (h:TS w v ts) {i:Nat} (hi:i < ts.length) (dp:Nat) (hdp:dp≤13) (d1:isT ts i [91]=false) (d2:isT ts i [108,101,116]=false) (d3:isT ts i [105,102]=false) (d4:isT ts i [102,111,114]=false) :
  Calls Tryz.prog 61 #[v,.int .i64 (i:Int),.int .i64 (dp:Int)] w (RSt w (.error i)):=by
 obtain ⟨b,cap,rfl,c0,c1,c2⟩:=h.at_ hi;have hlen:=h.len;have H:=Hd h;have i0:(0:Int)≤(i:Int):=by omega
 have i1:(i:Int) < (ts.length:Int):=by omega
 obtain ⟨ps,hps⟩:∃ ps,ps=pAt ts i:=⟨_,rfl⟩
 rw [← hps] at c2;have hbl:b < w.heap.size:=World.block_lt_of_cell? _ _ c0;have hbn:b≠w.heap.size:=by omega
 have HPS:=Hd hps;have KI:∀ (W:World),Only [] w W→∀ x:ByteArray,Calls Tryz.prog 59 #[.slice (some ⟨b,0,none⟩) ts.length cap,.int .i64 (i:Int),.string x] W fun e w'=>e=.returned (.bool (isT ts i x.data.toList))∧W=w':=fun W ho x=>bb (h.quiet ho) (.ok i) hi x;have HKI:=Hd KI;clear h hps c0 c1 KI
 go_enter Tryz.func61,Tryz.ntmps61
 go_wp2_with fail
 refine cp (fun w3 hA3 hB3 o3=>?_);have HA:=Hd hA3;have HB:=Hd hB3;have HO:=Hd o3;have hsz3:w.heap.size+1 < w3.heap.size:=(Array.getElem?_eq_some_iff.1 hB3).1;clear hA3 hB3 o3;refine (HKI.out _ HO.out _).mono ?_;rintro e w' ⟨rfl,rfl⟩;rw [show isT ts i (⟨#[91]⟩:ByteArray).data.toList=false from d1];go_wp2_with fail
 refine (HKI.out _ HO.out _).mono ?_;rintro e w' ⟨rfl,rfl⟩;rw [show isT ts i (⟨#[108,101,116]⟩:ByteArray).data.toList=false from d2];go_wp2_with fail
 refine (HKI.out _ HO.out _).mono ?_;rintro e w' ⟨rfl,rfl⟩;rw [show isT ts i (⟨#[105,102]⟩:ByteArray).data.toList=false from d3];go_wp2_with fail
 refine (HKI.out _ HO.out _).mono ?_;rintro e w' ⟨rfl,rfl⟩;rw [show isT ts i (⟨#[102,111,114]⟩:ByteArray).data.toList=false from d4];clear d1 d2 d3 d4;go_wp2_with fail
 have oD:Only [] w3 w3.drew:=(Only.refl [] w3).drew;replace HB:=Hd (oD.heap HB.out (by simp));replace HA:=Hd (oD.heap HA.out (by simp));have hBd:=HB.out;refine wp_region_held_drew (S:=fun w'=>w'.cell? ⟨w.heap.size+1,0,none⟩=some (.int .i64 0)∧w'.cell? ⟨w.heap.size+1,1,none⟩=some (.string ⟨#[]⟩)∧w'.cell? ⟨w.heap.size+1,2,none⟩=some (.slice none 0 0)∧w'.cell? ⟨w.heap.size+1,3,none⟩=some (.int .i64 0)∧w'.cell? ⟨w.heap.size+1,4,none⟩=some (.slice none 0 0)∧w'.cell? ⟨w.heap.size+1,5,none⟩=some (.slice none 0 0)∧w'.cell? ⟨w.heap.size+1,6,none⟩=some (.int .i64 (ps:Int))) (by kernel_rfl) ⟨ab 0 hBd,ab 1 hBd,ab 2 hBd,ab 3 hBd,ab 4 hBd,ab 5 hBd,ab 6 hBd⟩ (fun hH=>?_);have HOd:=Hd oD;clear hBd oD;generalize w3.drew=wd at HB HA HOd hH⊢;refine tk 0 hH ?_;refine tk 1 hH ?_;refine rd 2 (fun K hK=>?_);go_simp;refine (bZ i (by omega) _).mono ?_;rintro e w' ⟨rfl,rfl⟩;refine hK.out _ _ hH (fun hH=>?_);clear hK K;have s0:wd.cell? ⟨w.heap.size,0,none⟩=some (.int .i64 0):=ab 0 HA.out;have s1:wd.cell? ⟨w.heap.size,1,none⟩=some (.string ⟨#[]⟩):=ab 1 HA.out;have s2:wd.cell? ⟨w.heap.size,2,none⟩=some (.slice none 0 0):=ab 2 HA.out;have s3:wd.cell? ⟨w.heap.size,3,none⟩=some (.int .i64 0):=ab 3 HA.out;have s4:wd.cell? ⟨w.heap.size,4,none⟩=some (.slice none 0 0):=ab 4 HA.out;have s5:wd.cell? ⟨w.heap.size,5,none⟩=some (.slice none 0 0):=ab 5 HA.out;have s6:wd.cell? ⟨w.heap.size,6,none⟩=some (.int .i64 0):=ab 6 HA.out;have gs0:=ae 0 HA.out;have gs1:=ae 1 HA.out;have gs2:=ae 2 HA.out;have gs3:=ae 3 HA.out;have gs4:=ae 4 HA.out;have gs5:=ae 5 HA.out;have gs6:=ae 6 HA.out;clear hH;refine rd 3 (fun K hK=>?_);go_simp;have oz:Only [w.heap.size] wd (((((((wd.setCell ⟨w.heap.size,0,none⟩ (.int .i64 0)).setCell ⟨w.heap.size,1,none⟩ (.string ⟨#[]⟩)).setCell ⟨w.heap.size,2,none⟩ (.slice none 0 0)).setCell ⟨w.heap.size,3,none⟩ (.int .i64 0)).setCell ⟨w.heap.size,4,none⟩ (.slice none 0 0)).setCell ⟨w.heap.size,5,none⟩ (.slice none 0 0)).setCell ⟨w.heap.size,6,none⟩ (.int .i64 (ps:Int))):=oc;have hz:=aZ HA.out (.int .i64 0) (.string ⟨#[]⟩) (.slice none 0 0) (.int .i64 0) (.slice none 0 0) (.slice none 0 0) (.int .i64 (ps:Int));have hBz:=oz.heap HB.out (by simp);generalize ((((((wd.setCell ⟨w.heap.size,0,none⟩ (.int .i64 0)).setCell ⟨w.heap.size,1,none⟩ (.string ⟨#[]⟩)).setCell ⟨w.heap.size,2,none⟩ (.slice none 0 0)).setCell ⟨w.heap.size,3,none⟩ (.int .i64 0)).setCell ⟨w.heap.size,4,none⟩ (.slice none 0 0)).setCell ⟨w.heap.size,5,none⟩ (.slice none 0 0)).setCell ⟨w.heap.size,6,none⟩ (.int .i64 (ps:Int))=wz at oz hz hBz⊢;have HOz:=Hd oz;have HZ:=Hd hz;refine hK.out _ _ ⟨ab 0 hBz,ab 1 hBz,ab 2 hBz,ab 3 hBz,ab 4 hBz,ab 5 hBz,ab 6 hBz⟩ (fun hH=>?_);clear hK K hz hBz oz s0 s1 s2 s3 s4 s5 s6 gs0 gs1 gs2 gs3 gs4 gs5 gs6;refine tk 4 hH ?_;refine wpAnyH_done (by kernel_rfl) ?_ _;clear hH;go_wp2_with fail
 (try simp only [Exit.inBlock,Exit.then]);refine bodyPost_ret (eL _ _ w.heap.size _ _ _ _ _ _ _ (.int .i64 (-1 - (i:Int))) rfl rfl HZ.out) rfl ?_;refine ⟨0,0,ps,⟨#[]⟩,none,none,none,0,0,0,0,0,0,rfl,(fun s j h=>by cases h),?_⟩;exact (HO.out.trans HOd.out (by simp)).trans (T:=[w.heap.size]) HOz.out (fun k hk=>.inr (by rw [List.mem_singleton.1 hk];exact Nat.le_refl _))
theorem rlet_any (h:TS w v ts) {i:Nat} (hi:i < ts.length) (dp:Nat) (hdp:dp≤13) (d1:isT ts i [91]=false) (d2:isT ts i [108,101,116]=true) :
  Calls Tryz.prog 61 #[v,.int .i64 (i:Int),.int .i64 (dp:Int)] w (RSt w (pw ts i dp)):=by
 obtain ⟨R,hR⟩:∃ R,R=pw ts i dp:=⟨_,rfl⟩
 rw [← hR];rw [kS] at hR;have hi1:i+1 < ts.length:=aL h.ends hi d2;obtain ⟨rw_,hrw⟩:∃ rw_,rw_=bp ts (i+1):=⟨_,rfl⟩
 have hpw:aM ts (ai rw_):=by rw [hrw];exact fY (bY h.ends hi1)
 rw [← hrw] at hR;obtain ⟨pe,hpe⟩:∃ pe,pe=ba ts (ai rw_) [61]:=⟨_,rfl⟩
 have hpp:aM ts pe:=by rw [hpe];exact cV h.ends hpw _
 rw [← hpe] at hR;obtain ⟨r,hr⟩:∃ r,r=g8 ts pe dp:=⟨_,rfl⟩
 have hpr:aM ts (ai r):=by rw [hr];exact i6 h.ends hpp dp
 rw [← hr] at hR;obtain ⟨b,cap,rfl,c0,c1,c2⟩:=h.at_ hi;have hlen:=h.len;have H:=Hd h;have i0:(0:Int)≤(i:Int):=by omega
 have i1:(i:Int) < (ts.length:Int):=by omega
 obtain ⟨ps,hps⟩:∃ ps,ps=pAt ts i:=⟨_,rfl⟩
 rw [← hps] at c2;have hbl:b < w.heap.size:=World.block_lt_of_cell? _ _ c0;have hbn:b≠w.heap.size:=by omega
 have HPS:=Hd hps;have KI:∀ (W:World),Only [] w W→∀ x:ByteArray,Calls Tryz.prog 59 #[.slice (some ⟨b,0,none⟩) ts.length cap,.int .i64 (i:Int),.string x] W fun e w'=>e=.returned (.bool (isT ts i x.data.toList))∧W=w':=fun W ho x=>bb (h.quiet ho) (.ok i) hi x;have HKI:=Hd KI;clear h hps c0 c1 KI;rw [← HPS.out] at hR;have KW:∀ (W:World),Only [] w W→Calls Tryz.prog 57 #[.slice (some ⟨b,0,none⟩) ts.length cap,.int .i64 ((i:Int)+1)] W fun e w'=>e=.returned (.tuple #[.string (aj (iZ rw_)),.int .i64 (zR rw_)])∧W=w':=fun W ho=>by
  have:=eu (H.out.quiet ho) (.ok (i+1)) hi1;rw [show fC ts (.ok (i+1))=rw_ from hrw.symm,show zP (.ok (i+1))=(i:Int)+1 from by show ((i+1:Nat):Int)=_;omega] at this;exact this
 have KE0:∀ (W:World),Only [] w W→Calls Tryz.prog 58 #[.slice (some ⟨b,0,none⟩) ts.length cap,.int .i64 (zR rw_),.string ⟨#[61]⟩] W fun e w'=>e=.returned (.int .i64 (zP pe))∧W=w':=fun W ho=>by
  have:=aH (H.out.quiet ho) (ai rw_) hpw ⟨#[61]⟩;rw [← bs,show ba ts (ai rw_) (⟨#[61]⟩:ByteArray).data.toList=pe from hpe.symm] at this;exact this
 have KX:∀ (W:World),Only [] w W→Calls Tryz.prog 60 #[.slice (some ⟨b,0,none⟩) ts.length cap,.int .i64 (zP pe),.int .i64 1,.int .i64 (dp:Int)] W (RE W r):=fun W ho=>by
  have:=cX (H.out.quiet ho) hpp dp hdp;rw [← hr] at this;exact this
 have KC:∀ (W:World),Only [] w W→Calls Tryz.prog 58 #[.slice (some ⟨b,0,none⟩) ts.length cap,.int .i64 (zR r),.string ⟨#[59]⟩] W fun e w'=>e=.returned (.int .i64 (zP (ba ts (ai r) [59])))∧W=w':=fun W ho=>by
  have:=aH (H.out.quiet ho) (ai r) hpr ⟨#[59]⟩;rw [← bs] at this;exact this
 have hcz:zR R=zP (ba ts (ai r) [59]):=by rw [hR];exact fZ ts r [59] _
 generalize zP (ba ts (ai r) [59])=zc at KC hcz;generalize zP pe=ze at KE0 KX;obtain ⟨sn,hsn⟩:∃ sn,sn=aj (iZ rw_):=⟨_,rfl⟩
 rw [← hsn] at KW;have HSN:=Hd hsn;have HKW:=Hd KW;have HKE:=Hd KE0;have HKX:=Hd KX;have HKC:=Hd KC;have HR:=Hd hR;have HCZ:=Hd hcz;clear KW KE0 KX KC hR hcz hsn hpw hpp hpr hr hpe hrw;generalize zR rw_=zw at HKW HKE
 go_enter Tryz.func61,Tryz.ntmps61
 go_wp2_with fail
 refine cp (fun w3 hA3 hB3 o3=>?_);have HA:=Hd hA3;have HB:=Hd hB3;have HO:=Hd o3;have hsz3:w.heap.size+1 < w3.heap.size:=(Array.getElem?_eq_some_iff.1 hB3).1;clear hA3 hB3 o3;refine (HKI.out _ HO.out _).mono ?_;rintro e w' ⟨rfl,rfl⟩;rw [show isT ts i (⟨#[91]⟩:ByteArray).data.toList=false from d1];go_wp2_with fail
 refine (HKI.out _ HO.out _).mono ?_;rintro e w' ⟨rfl,rfl⟩;rw [show isT ts i (⟨#[108,101,116]⟩:ByteArray).data.toList=true from d2];clear d1 d2;have b0:w3.cell? ⟨w.heap.size+1,0,none⟩=some (.int .i64 0):=ab 0 HB.out;have gb:=ae 0 HB.out;go_wp2_with fail
 clear b0 gb;have og:Only [w.heap.size+1] w3 (w3.setCell ⟨w.heap.size+1,0,none⟩ (.int .i64 1)):=oc;have hBg:=af (i:=0) (.int .i64 1) HB.out;have hAg:=og.heap HA.out (by simp);generalize w3.setCell ⟨w.heap.size+1,0,none⟩ (.int .i64 1)=w4 at og hBg hAg⊢;replace HO:=Hd (HO.out.trans (T:=[w.heap.size+1]) og (fun k hk=>.inr (by rw [List.mem_singleton.1 hk];omega)));replace HA:=Hd hAg;replace HB:=Hd hBg;have HOG0:=Hd og;clear og hAg hBg;refine (HKW.out _ HO.out).mono ?_;rintro e w' ⟨rfl,rfl⟩;go_wp2_with fail
 refine (HKE.out _ HO.out).mono ?_;rintro e w' ⟨rfl,rfl⟩;go_wp2_with fail
 refine (HKX.out _ HO.out).mono ?_;rintro e w5 ⟨k2,n2,s2,a2,l2,c2',p2,rfl,hv2,o5⟩;have hz4:w3.heap.size≤w4.heap.size:=HOG0.out.size;replace HO:=Hd (HO.out.trans o5 (by simp));replace HA:=Hd (o5.heap HA.out (by simp));replace HB:=Hd (o5.heap HB.out (by simp));have hv3:∀ e j,r=.ok (e,j)→EV w5 (fun b=>w.heap.size+1 < b) e [.int .i64 k2,.int .i64 n2,.string s2,.slice a2 l2 c2',.int .i64 p2]:=fun e j he=>EV.kept (Only.refl [] w5) (by simp) (fun b hb=>by have:w4.heap.size≤b:=hb;omega) e _ (hv2 e j he);have HV:=Hd hv3;have hz5:w4.heap.size≤w5.heap.size:=o5.size;clear hv2 hv3 o5;go_upto_region 8 with (fail)
 obtain ⟨w6,q9,o6,hX6,hs6⟩:=nb w5 (.cells #[.int .i64 k2,.int .i64 n2,.string s2,.slice a2 l2 c2',.int .i64 p2] 95);rw [← q9];clear q9;replace HO:=Hd (HO.out.trans o6 (by simp));replace HA:=Hd (o6.heap HA.out (by simp));replace HB:=Hd (o6.heap HB.out (by simp));replace HV:=Hd (fun e j he=>(HV.out e j he).quiet o6);have b1:w6.cell? ⟨w.heap.size+1,1,none⟩=some (.string ⟨#[]⟩):=ab 1 HB.out;have gb1:=ae 1 HB.out;have HX:=Hd hX6;have nXB:w5.heap.size≠w.heap.size+1:=by omega
 have hz6:w5.heap.size < w6.heap.size:=by omega
 clear hX6 hs6 o6;go_upto_region 9 with (fail)
 clear b1 gb1;have og:Only [w.heap.size+1] w6 (w6.setCell ⟨w.heap.size+1,1,none⟩ (.string sn)):=oc;have hBg:=af (i:=1) (.string sn) HB.out;have hAg:=og.heap HA.out (by simp);generalize w6.setCell ⟨w.heap.size+1,1,none⟩ (.string sn)=w7 at og hBg hAg⊢;replace HO:=Hd (HO.out.trans (T:=[w.heap.size+1]) og (fun k hk=>.inr (by rw [List.mem_singleton.1 hk];omega)));replace HA:=Hd hAg;replace HB:=Hd hBg;have HOG1:=Hd og;clear og hAg hBg;replace HX:=Hd (HOG1.out.heap HX.out (by simpa using nXB));replace HV:=Hd (fun e j he=>EV.kept HOG1.out (fun k hk hB=>by rw [List.mem_singleton.1 hk] at hB;exact absurd hB (by omega)) (fun _ h=>h) e _ (HV.out e j he));have x0:w7.cell? ⟨w5.heap.size,0,none⟩=some (.int .i64 k2):=ab 0 HX.out;have x1:w7.cell? ⟨w5.heap.size,1,none⟩=some (.int .i64 n2):=ab 1 HX.out;have x2:w7.cell? ⟨w5.heap.size,2,none⟩=some (.string s2):=ab 2 HX.out;have x3:w7.cell? ⟨w5.heap.size,3,none⟩=some (.slice a2 l2 c2'):=ab 3 HX.out;have x4:w7.cell? ⟨w5.heap.size,4,none⟩=some (.int .i64 p2):=ab 4 HX.out;have b2:w7.cell? ⟨w.heap.size+1,2,none⟩=some (.slice none 0 0):=ab 2 HB.out;have gb2:=ae 2 HB.out;have hz7:w6.heap.size≤w7.heap.size:=HOG1.out.size;have lB:w.heap.size+1 < w7.heap.size:=by omega
 have nB:w.heap.size+1≠w7.heap.size:=by omega
 have lX:w5.heap.size < w7.heap.size:=by omega
 have nX:w5.heap.size≠w7.heap.size:=by omega
 go_upto_region 10 with (fail)
 have oc:Only [w.heap.size+1] w7 (w7.setCell ⟨w.heap.size+1,2,none⟩ (.slice (some ⟨w7.heap.size,0,none⟩) 1 1)):=oc;have hBc:=af (i:=2) (.slice (some ⟨w7.heap.size,0,none⟩) 1 1) HB.out;have hsc:(w7.setCell ⟨w.heap.size+1,2,none⟩ (.slice (some ⟨w7.heap.size,0,none⟩) 1 1)).heap.size=w7.heap.size:=by simp
 have hAc:=oc.heap HA.out (by simp);generalize w7.setCell ⟨w.heap.size+1,2,none⟩ (.slice (some ⟨w7.heap.size,0,none⟩) 1 1)=wc at oc hBc hsc hAc⊢;have e3:∀ e j,r=.ok (e,j)→EsV (wc.alloc (.cells #[.int .i64 k2,.int .i64 n2,.string s2,.slice a2 l2 c2',.int .i64 p2] 95)) (fun b=>w.heap.size+1 < b) (.slice (some ⟨w7.heap.size,0,none⟩) 1 1) [e]:=fun e j he=>by
  have:=EsV.made1 (EV.kept oc (fun k hk hB=>by rw [List.mem_singleton.1 hk] at hB;exact absurd hB (by omega)) (fun _ h=>h) e _ (HV.out e j he)) (show w.heap.size+1 < wc.heap.size by omega);rw [hsc] at this;exact this
 have od:Only [w.heap.size+1] w7 (wc.alloc (.cells #[.int .i64 k2,.int .i64 n2,.string s2,.slice a2 l2 c2',.int .i64 p2] 95)):=oc.alloc _;have hBd:=ax (.cells #[.int .i64 k2,.int .i64 n2,.string s2,.slice a2 l2 c2',.int .i64 p2] 95) hBc;have hAd:=ax (.cells #[.int .i64 k2,.int .i64 n2,.string s2,.slice a2 l2 c2',.int .i64 p2] 95) hAc;generalize wc.alloc (.cells #[.int .i64 k2,.int .i64 n2,.string s2,.slice a2 l2 c2',.int .i64 p2] 95)=we at e3 od hBd hAd⊢;have HE3:=Hd e3;replace HO:=Hd (HO.out.trans (T:=[w.heap.size+1]) od (fun k hk=>.inr (by rw [List.mem_singleton.1 hk];omega)));replace HA:=Hd hAd;replace HB:=Hd hBd;clear e3 oc hBc hsc hAc od x0 x1 x2 x3 x4 b2 gb2 lB nB lX nX hBd hAd;have oD:Only [] we we.drew:=(Only.refl [] we).drew;replace HB:=Hd (oD.heap HB.out (by simp));replace HA:=Hd (oD.heap HA.out (by simp));have hBd:=HB.out;refine wp_region_held_drew (S:=fun w'=>w'.cell? ⟨w.heap.size+1,0,none⟩=some (.int .i64 1)∧w'.cell? ⟨w.heap.size+1,1,none⟩=some (.string sn)∧w'.cell? ⟨w.heap.size+1,2,none⟩=some (.slice (some ⟨w7.heap.size,0,none⟩) 1 1)∧w'.cell? ⟨w.heap.size+1,3,none⟩=some (.int .i64 0)∧w'.cell? ⟨w.heap.size+1,4,none⟩=some (.slice none 0 0)∧w'.cell? ⟨w.heap.size+1,5,none⟩=some (.slice none 0 0)∧w'.cell? ⟨w.heap.size+1,6,none⟩=some (.int .i64 (ps:Int))) (by kernel_rfl) ⟨ab 0 hBd,ab 1 hBd,ab 2 hBd,ab 3 hBd,ab 4 hBd,ab 5 hBd,ab 6 hBd⟩ (fun hH=>?_);have HOd:=Hd oD;clear hBd oD;generalize we.drew=wd at HB HA HOd hH⊢;refine tk 0 hH ?_;refine tk 1 hH ?_;refine tk 2 hH ?_;refine rd 3 (fun K hK=>?_);go_simp;refine (HKC.out _ (HO.out.trans HOd.out (by simp))).mono ?_;rintro e w' ⟨rfl,rfl⟩;refine hK.out _ _ hH (fun hH=>?_);clear hK K;have s0:wd.cell? ⟨w.heap.size,0,none⟩=some (.int .i64 0):=ab 0 HA.out;have s1:wd.cell? ⟨w.heap.size,1,none⟩=some (.string ⟨#[]⟩):=ab 1 HA.out;have s2:wd.cell? ⟨w.heap.size,2,none⟩=some (.slice none 0 0):=ab 2 HA.out;have s3:wd.cell? ⟨w.heap.size,3,none⟩=some (.int .i64 0):=ab 3 HA.out;have s4:wd.cell? ⟨w.heap.size,4,none⟩=some (.slice none 0 0):=ab 4 HA.out;have s5:wd.cell? ⟨w.heap.size,5,none⟩=some (.slice none 0 0):=ab 5 HA.out;have s6:wd.cell? ⟨w.heap.size,6,none⟩=some (.int .i64 0):=ab 6 HA.out;have gs0:=ae 0 HA.out;have gs1:=ae 1 HA.out;have gs2:=ae 2 HA.out;have gs3:=ae 3 HA.out;have gs4:=ae 4 HA.out;have gs5:=ae 5 HA.out;have gs6:=ae 6 HA.out;clear hH;refine rd 4 (fun K hK=>?_);go_simp;have oz:Only [w.heap.size] wd (((((((wd.setCell ⟨w.heap.size,0,none⟩ (.int .i64 1)).setCell ⟨w.heap.size,1,none⟩ (.string sn)).setCell ⟨w.heap.size,2,none⟩ (.slice (some ⟨w7.heap.size,0,none⟩) 1 1)).setCell ⟨w.heap.size,3,none⟩ (.int .i64 0)).setCell ⟨w.heap.size,4,none⟩ (.slice none 0 0)).setCell ⟨w.heap.size,5,none⟩ (.slice none 0 0)).setCell ⟨w.heap.size,6,none⟩ (.int .i64 (ps:Int))):=oc;have hz:=aZ HA.out (.int .i64 1) (.string sn) (.slice (some ⟨w7.heap.size,0,none⟩) 1 1) (.int .i64 0) (.slice none 0 0) (.slice none 0 0) (.int .i64 (ps:Int));have hBz:=oz.heap HB.out (by simp);generalize ((((((wd.setCell ⟨w.heap.size,0,none⟩ (.int .i64 1)).setCell ⟨w.heap.size,1,none⟩ (.string sn)).setCell ⟨w.heap.size,2,none⟩ (.slice (some ⟨w7.heap.size,0,none⟩) 1 1)).setCell ⟨w.heap.size,3,none⟩ (.int .i64 0)).setCell ⟨w.heap.size,4,none⟩ (.slice none 0 0)).setCell ⟨w.heap.size,5,none⟩ (.slice none 0 0)).setCell ⟨w.heap.size,6,none⟩ (.int .i64 (ps:Int))=wz at oz hz hBz⊢;have HOz:=Hd oz;have HZ:=Hd hz;refine hK.out _ _ ⟨ab 0 hBz,ab 1 hBz,ab 2 hBz,ab 3 hBz,ab 4 hBz,ab 5 hBz,ab 6 hBz⟩ (fun hH=>?_);clear hK K hz hBz oz s0 s1 s2 s3 s4 s5 s6 gs0 gs1 gs2 gs3 gs4 gs5 gs6;refine tk 5 hH ?_;refine wpAnyH_done (by kernel_rfl) ?_ _;clear hH;go_wp2_with fail
 (try simp only [Exit.inBlock,Exit.then]);refine bodyPost_ret (eL _ _ w.heap.size _ _ _ _ _ _ _ (.int .i64 zc) rfl rfl HZ.out) rfl ?_;refine ⟨1,0,ps,sn,some ⟨w7.heap.size,0,none⟩,none,none,1,0,0,1,0,0,by rw [HCZ.out],fun s j hs=>?_,?_⟩
 ·rw [HR.out] at hs;obtain ⟨e,a3,he,rfl⟩:=cY hs;have e5:=SV.mk' (w:=we) (B:=fun b=>w.heap.size+1 < b) (k:=1) (n:=0) (p:=ps) (nm:=iZ rw_) (HE3.out e a3 he) (SsV.nil _ _) (SsV.nil _ _);rw [← HSN.out] at e5;refine SV.kept (S:=[w.heap.size]) ((HOd.out.mono (T:=[w.heap.size]) (by simp)).trans HOz.out (fun k hk=>.inl hk)) (fun k hk hB=>?_) (fun b hb=>?_) _ _ e5
  ·rw [List.mem_singleton.1 hk] at hB;exact absurd hB (by omega)
  ·show w.heap.size≤b;have:w.heap.size+1 < b:=hb;omega
 ·exact (HO.out.trans HOd.out (by simp)).trans (T:=[w.heap.size]) HOz.out (fun k hk=>.inr (by rw [List.mem_singleton.1 hk];exact Nat.le_refl _))
end
section
variable {ts:List Tok} {α β:Type}
def ey (g:α→β) (r:Except Nat (α×Nat)):Except Nat (β×Nat):=match r with | .error k=>.error k | .ok (x,a)=>.ok (g x,a)
theorem mapR_z (g:α→β) (r:Except Nat (α×Nat)):zR (ey g r)=zR r:=by cases r<;>rfl
theorem uV {g:α→β} {r:Except Nat (α×Nat)} {y:β} {j:Nat} (h:ey g r=.ok (y,j)):∃ x,r=.ok (x,j)∧y=g x:=by
 cases r with
 | error k=>cases h
 | ok x=>
  obtain ⟨x,a⟩:=x;unfold ey at h;cases h;exact ⟨x,rfl,rfl⟩
def AdvP (ts:List Tok) (i:Nat) (p:Except Nat Nat):Prop:=match p with | .ok a=>i≤a∧a < ts.length | .error k=>i≤k∧k < ts.length
theorem Adv.next {i:Nat} {r:Except Nat (α×Nat)} (h:Adv ts i r):AdvP ts i (ai r):=by
 cases r with
 | error k=>exact h
 | ok x=>obtain ⟨x,a⟩:=x;exact ⟨Nat.le_of_lt h.1,h.2⟩
theorem AdvP.ok {i:Nat} {p:Except Nat Nat} (h:AdvP ts i p):aM ts p:=by
 cases p with
 | error k=>exact h.2
 | ok a=>exact h.2
theorem Adv.map {i:Nat} {r:Except Nat (α×Nat)} (h:Adv ts i r) (g:α→β):Adv ts i (ey g r):=by
 cases r with
 | error k=>exact h
 | ok x=>obtain ⟨x,a⟩:=x;exact h
theorem Adv.from {i j:Nat} {r:Except Nat (α×Nat)} (h:Adv ts j r) (hij:i≤j):Adv ts i r:=by
 cases r with
 | error k=>exact ⟨Nat.le_trans hij h.1,h.2⟩
 | ok x=>obtain ⟨x,a⟩:=x;exact ⟨Nat.lt_of_le_of_lt hij h.1,h.2⟩
theorem AdvP.from {i j:Nat} {p:Except Nat Nat} (h:AdvP ts j p) (hij:i≤j):AdvP ts i p:=by
 cases p with
 | error k=>exact ⟨Nat.le_trans hij h.1,h.2⟩
 | ok a=>exact ⟨Nat.le_trans hij h.1,h.2⟩
theorem AdvP.eat (he:Ends ts) {i:Nat} {p:Except Nat Nat} (h:AdvP ts i p) (x:Sec):AdvP ts i (ba ts p x):=by
 cases p with
 | error k=>exact h
 | ok a=>
  have h2:=fW he x h.2;show AdvP ts i (bE ts a x);cases e:bE ts a x with
  | error k=>rw [e] at h2;obtain rfl:k=a:=h2;exact h
  | ok b=>rw [e] at h2;obtain ⟨rfl,h3⟩:=h2;exact ⟨by have:=h.1;omega,h3⟩
theorem AdvP.expr (he:Ends ts) {i:Nat} {p:Except Nat Nat} (h:AdvP ts i p) (dp:Nat):Adv ts i (g8 ts p dp):=by
 cases p with
 | error k=>exact h
 | ok a=>exact ((bi he _).1 a 1 dp h.2).from h.1
theorem AdvP.num (he:Ends ts) {i:Nat} {p:Except Nat Nat} (h:AdvP ts i p):Adv ts i (uG ts p):=by
 cases p with
 | error k=>exact h
 | ok a=>exact (numT_adv he h.2).from h.1
theorem g9 (he:Ends ts) {i:Nat} {r:Except Nat (E×Nat)} (h:Adv ts i r) (c:Sec) (mk:E→St):Adv ts i (cd ts r c mk):=by
 cases r with
 | error k=>exact h
 | ok x=>
  obtain ⟨x,a⟩:=x;have h2:=fW he c h.2;unfold cd;dsimp only;cases e:bE ts a c with
  | error k=>rw [e] at h2;obtain rfl:k=a:=h2;exact ⟨Nat.le_of_lt h.1,h.2⟩
  | ok b=>rw [e] at h2;obtain ⟨rfl,h3⟩:=h2;exact ⟨by have:=h.1;omega,h3⟩
theorem cell_adv (he:Ends ts) {i:Nat} (hi:i < ts.length) (dp:Nat):Adv ts i (dE ts i dp):=by
 have h1:Adv ts i (bP ts i dp):=(bi he _).2.2.2 i dp [91] [93] hi;cases e:bP ts i dp with
 | error k=>rw [qY e];rw [e] at h1;exact h1
 | ok x=>
  obtain ⟨t,a⟩:=x;rw [eN e];rw [e] at h1;have h1:i < a∧a < ts.length:=h1;split
  ·rename_i hx;have h2:a+1 < ts.length:=by rcases hx with hx | hx | hx<;>exact aL he h1.2 hx
   exact (g9 he ((bi he _).1 (a+1) 1 dp h2) _ _).from (by omega)
  ·split
   ·rename_i hx;have h2:a+1 < ts.length:=aL he h1.2 hx;exact (g9 he ((bi he _).2.2.2 (a+1) dp [91] [93] h2) _ _).from (by omega)
   ·exact ⟨Nat.le_of_lt h1.1,h1.2⟩
theorem let_adv (he:Ends ts) {i:Nat} (hi:i+1 < ts.length) (dp:Nat):Adv ts i (pw ts i dp):=by
 rw [kS];exact (g9 he (((bY he hi).next.eat he _).expr he dp) _ _).from (by omega)
def forP (ts:List Tok) (i:Nat):Except Nat Nat:=ba ts (ba ts (ba ts (ai (bp ts (i+1))) [105,110]) [48]) [46,46]
theorem forP_adv (he:Ends ts) {i:Nat} (hi:i+1 < ts.length):AdvP ts (i+1) (forP ts i):=(((bY he hi).next.eat he _).eat he _).eat he _
theorem forR_num (i:Nat):forR ts i=ey (fun n=>(iZ (bp ts (i+1)),n)) (uG ts (forP ts i)):=by
 unfold forR forP;cases hw:bp ts (i+1) with
 | error k=>rfl
 | ok x=>
  obtain ⟨s,a⟩:=x;dsimp only [ai,ba,iZ];cases bE ts a [105,110] with
  | error k=>rfl
  | ok a=>
   dsimp only;cases bE ts a [48] with
   | error k=>rfl
   | ok a=>
    dsimp only;cases bE ts a [46,46] with
    | error k=>rfl
    | ok a=>
     dsimp only [uG];cases pu ts a<;>rfl
def fp (ts:List Tok) (f:Nat) (p:Except Nat Nat) (dp:Nat):Except Nat (List St×Nat):=match p with | .ok i=>aX ts f i dp | .error k=>.error k
def ifS (ts:List Tok) (f dp:Nat) (ps:Int) (r:Except Nat (E×Nat)) (rb:Except Nat (List St×Nat)):Except Nat (St×Nat):=match r,rb with
 | .ok (e,_),.ok (b,a)=>if isT ts a [101,108,115,101]=true then ey (fun c=>.mk 6 [] [e] 0 b c ps) (aX ts f (a+1) dp) else .ok (.mk 6 [] [e] 0 b [] ps,a)
 | _,.error k=>.error k
 | .error k,.ok _=>.error k
theorem qZ {f i dp:Nat} (h1:isT ts i [91]=false) (h2:isT ts i [108,101,116]=false) (h3:isT ts i [105,102]=true) :
  bm ts (f+1) i dp=ifS ts f dp (pAt ts i) (br ts (i+1) dp) (fp ts f (ai (br ts (i+1) dp)) dp):=by
 unfold bm;rw [h1,h2,h3];simp only [Bool.false_eq_true,if_false,if_true];cases br ts (i+1) dp with
 | error k=>rfl
 | ok x=>
  obtain ⟨e,a⟩:=x;dsimp only [ai,fp];cases aX ts f a dp with
  | error k=>rfl
  | ok y=>
   obtain ⟨b,c⟩:=y;unfold ifS;dsimp only;split
   ·cases aX ts f (c+1) dp<;>rfl
   ·rfl
theorem mX {f i dp:Nat} (h1:isT ts i [91]=false) (h2:isT ts i [108,101,116]=false) (h3:isT ts i [105,102]=false) (h4:isT ts i [102,111,114]=true) :
  bm ts (f+1) i dp=ey (fun b=>.mk 7 (iZ (bp ts (i+1))) [] (valI (uG ts (forP ts i))) b [] (pAt ts i)) (fp ts f (ai (uG ts (forP ts i))) dp):=by
 unfold bm;rw [h1,h2,h3,h4,forR_num];simp only [Bool.false_eq_true,if_false,if_true];cases uG ts (forP ts i) with
 | error k=>rfl
 | ok x=>
  obtain ⟨n,a⟩:=x;dsimp only [ai,fp,ey,valI];cases aX ts f a dp<;>rfl
theorem mY {f i dp:Nat} (h1:isT ts i [91]=false) (h2:isT ts i [108,101,116]=true):bm ts (f+1) i dp=pw ts i dp:=by
 unfold bm;rw [h1,h2];simp only [Bool.false_eq_true,if_false,if_true]
theorem kT {f i dp:Nat} (h1:isT ts i [91]=true):bm ts (f+1) i dp=dE ts i dp:=by
 unfold bm;rw [h1];simp only [if_true]
theorem ib {f i dp:Nat} (h1:isT ts i [91]=false) (h2:isT ts i [108,101,116]=false) (h3:isT ts i [105,102]=false) (h4:isT ts i [102,111,114]=false):bm ts (f+1) i dp=.error i:=by
 unfold bm;rw [h1,h2,h3,h4];simp only [Bool.false_eq_true,if_false]
def f6 (ts:List Tok) (r:Except Nat (List St×Nat)):Except Nat (List St×Nat):=match r with
 | .error k=>.error k
 | .ok (l,a)=>match bE ts a [125] with
  | .error k=>.error k
  | .ok b=>.ok (l,b)
theorem kU {f i dp:Nat} (h1:isT ts i [123]=true) (h2:¬ 12≤dp):aX ts (f+1) i dp=f6 ts (aR ts f (i+1) (dp+1)):=by
 unfold aX;rw [if_neg (fun e=>h2 e.1),if_pos h1];unfold f6;cases aR ts f (i+1) (dp+1)<;>rfl
theorem jv {f i dp:Nat} (h:isT ts i [123]=true→12≤dp):aX ts (f+1) i dp=.error i:=by
 unfold aX
 by_cases h1:isT ts i [123]=true
 ·rw [if_pos ⟨h h1,h1⟩]
 ·rw [if_neg (fun e=>h1 e.2),if_neg h1]
theorem sC (he:Ends ts) {i:Nat} {r:Except Nat (List St×Nat)} (h:AdvL ts i r):AdvL ts i (f6 ts r):=by
 cases r with
 | error k=>exact h
 | ok x=>
  obtain ⟨x,a⟩:=x;have h2:=fW he [125] h.2;unfold f6;dsimp only;cases e:bE ts a [125] with
  | error k=>rw [e] at h2;obtain rfl:k=a:=h2;exact h
  | ok b=>rw [e] at h2;obtain ⟨rfl,h3⟩:=h2;exact ⟨by have:=h.1;omega,h3⟩
theorem AdvL.up {i j:Nat} {r:Except Nat (α×Nat)} (h:AdvL ts j r) (hij:i < j):Adv ts i r:=by
 cases r with
 | error k=>exact ⟨by have:=h.1;omega,h.2⟩
 | ok x=>obtain ⟨x,a⟩:=x;exact ⟨by have:=h.1;omega,h.2⟩
theorem dn (he:Ends ts):∀ f:Nat,(∀ i dp,i < ts.length→Adv ts i (bm ts f i dp))∧(∀ i dp,i < ts.length→Adv ts i (aX ts f i dp))∧(∀ i dp,i < ts.length→AdvL ts i (aR ts f i dp)):=by
 intro f
 induction f with
 | zero=>
  refine ⟨fun i _ hi=>?_,fun i _ hi=>?_,fun i _ hi=>?_⟩
  ·unfold bm;exact ⟨Nat.le_refl _,hi⟩
  ·unfold aX;exact ⟨Nat.le_refl _,hi⟩
  ·unfold aR;exact ⟨Nat.le_refl _,hi⟩
 | succ f ih=>
  obtain ⟨ih1,ih2,ih3⟩:=ih;have ihP:∀ i p dp,AdvP ts i p→Adv ts i (fp ts f p dp):=by
   intro i p dp hp;cases p with
   | error k=>exact hp
   | ok a=>exact (ih2 a dp hp.2).from hp.1
  refine ⟨fun i dp hi=>?_,fun i dp hi=>?_,fun i dp hi=>?_⟩
  ·cases d1:isT ts i [91] with
   | true=>rw [kT d1];exact cell_adv he hi dp
   | false=>
    cases d2:isT ts i [108,101,116] with
    | true=>rw [mY d1 d2];exact let_adv he (aL he hi d2) dp
    | false=>
     cases d3:isT ts i [105,102] with
     | true=>
      rw [qZ d1 d2 d3];have hi1:=aL he hi d3;have h1:Adv ts (i+1) (br ts (i+1) dp):=(bi he _).1 (i+1) 1 dp hi1;have h2:=ihP (i+1) _ dp h1.next;cases e1:br ts (i+1) dp with
      | error k=>rw [e1] at h1;exact (show Adv ts i (.error k:Except Nat (St×Nat)) from ⟨by have:=h1.1;omega,h1.2⟩)
      | ok x=>
       obtain ⟨e,a⟩:=x;rw [e1] at h1 h2;cases e2:fp ts f (ai (.ok (e,a):Except Nat (E×Nat))) dp with
       | error k=>rw [e2] at h2;exact (show Adv ts i (.error k:Except Nat (St×Nat)) from ⟨by have:=h2.1;omega,h2.2⟩)
       | ok y=>
        obtain ⟨b,c⟩:=y;rw [e2] at h2;have h2:i+1 < c∧c < ts.length:=h2;unfold ifS;dsimp only;split
        ·rename_i hx;exact ((ih2 (c+1) dp (aL he h2.2 hx)).map _).from (by omega)
        ·exact ⟨by omega,h2.2⟩
     | false=>
      cases d4:isT ts i [102,111,114] with
      | true=>
       rw [mX d1 d2 d3 d4];exact ((ihP (i+1) _ dp ((forP_adv he (aL he hi d4)).num he).next).map _).from (by omega)
      | false=>rw [ib d1 d2 d3 d4];exact ⟨Nat.le_refl _,hi⟩
  ·by_cases h1:isT ts i [123]=true∧¬ 12≤dp
   ·rw [kU h1.1 h1.2];exact (sC he (ih3 (i+1) (dp+1) (aL he hi h1.1))).up (by omega)
   ·rw [jv (fun e=>by
     rcases Nat.lt_or_ge dp 12 with h2 | h2
     ·exact absurd ⟨e,by omega⟩ h1
     ·exact h2)]
    exact ⟨Nat.le_refl _,hi⟩
  ·unfold aR;split
   ·exact ⟨Nat.le_refl _,hi⟩
   ·have h1:=ih1 i dp hi;cases e:bm ts f i dp with
    | error k=>rw [e] at h1;exact h1
    | ok x=>
     obtain ⟨s,a⟩:=x;rw [e] at h1;have h2:=ih3 a dp h1.2;dsimp only;cases e2:aR ts f a dp with
     | error k=>rw [e2] at h2;exact ⟨Nat.le_trans (Nat.le_of_lt h1.1) h2.1,h2.2⟩
     | ok y=>obtain ⟨l,b⟩:=y;rw [e2] at h2;exact ⟨Nat.le_trans (Nat.le_of_lt h1.1) h2.1,h2.2⟩
end
def RBl (w:World) (r:Except Nat (List St×Nat)) (e:Ending) (w':World):Prop:=
 ∃ (a:Option Addr) (l c:Nat),e=.returned (.tuple #[.slice a l c,.int .i64 (zR r)])∧(∀ t i,r=.ok (t,i)→SsV w' (fun b=>w.heap.size≤b) (.slice a l c) t)∧Only [] w w'
def StmtC (ts:List Tok) (f:Nat):Prop:=∀ (w:World) (v:Value) (i dp:Nat),TS w v ts→i < ts.length→2*(ts.length - i)+1≤f→dp≤12→Calls Tryz.prog 61 #[v,.int .i64 (i:Int),.int .i64 (dp:Int)] w (RSt w (bm ts f i dp))
def kV (ts:List Tok) (f:Nat):Prop:=∀ (w:World) (v:Value) (p:Except Nat Nat) (dp:Nat),TS w v ts→aM ts p→(∀ i,p=.ok i→2*(ts.length - i)+1≤f)→dp≤12→Calls Tryz.prog 90 #[v,.int .i64 (zP p),.int .i64 (dp:Int)] w (RBl w (fp ts f p dp))
end Go.Proofs.YtcebchffcmpfeaaGreat
