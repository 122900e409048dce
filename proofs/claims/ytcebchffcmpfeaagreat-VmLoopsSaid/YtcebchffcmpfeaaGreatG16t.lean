import Derived.Test.YtcebchffcmpfeaaGreatGet
namespace Go.Proofs.YtcebchffcmpfeaaGreat
set_option linter.unusedVariables false
set_option linter.unusedSimpArgs false
set_option maxRecDepth 100000
set_option maxHeartbeats 16000000
open Go.RowKit Go.Maps
theorem uW {ts:List Tok} {f dp:Nat} {ps:Int} {r:Except Nat (E×Nat)} {k:Nat}:ifS ts f dp ps r (.error k)=.error k:=by cases r<;>rfl
section
variable {w w':World} {v:Value} {ts:List Tok}
theorem rif_any (h:TS w v ts) {i f:Nat} (hi:i < ts.length) (dp:Nat) (hdp:dp≤12) (hf:2*(ts.length - i)≤f) (IB:kV ts f) (d1:isT ts i [91]=false) (d2:isT ts i [108,101,116]=false) (d3:isT ts i [105,102]=true) :
  Calls Tryz.prog 61 #[v,.int .i64 (i:Int),.int .i64 (dp:Int)] w (RSt w (bm ts (f+1) i dp)):=by
 obtain ⟨R,hR⟩:∃ R,R=bm ts (f+1) i dp:=⟨_,rfl⟩
 rw [← hR];rw [qZ d1 d2 d3] at hR;have hi1:i+1 < ts.length:=aL h.ends hi d3;obtain ⟨r,hr⟩:∃ r,r=br ts (i+1) dp:=⟨_,rfl⟩
 have har:Adv ts (i+1) r:=by rw [hr];exact (bi h.ends _).1 (i+1) 1 dp hi1
 rw [← hr] at hR;obtain ⟨rb,hrb⟩:∃ rb,rb=fp ts f (ai r) dp:=⟨_,rfl⟩
 rw [← hrb] at hR;have hab:Adv ts (i+1) rb:=by
  rw [hrb];have hp:=har.next;revert hp;cases ai r with
  | error k=>exact fun hp=>hp
  | ok a=>exact fun hp=>((dn h.ends f).2.1 a dp hp.2).from hp.1
 obtain ⟨b,cap,rfl,c0,c1,c2⟩:=h.at_ hi;have hlen:=h.len;have H:=Hd h;have i0:(0:Int)≤(i:Int):=by omega
 have i1:(i:Int) < (ts.length:Int):=by omega
 obtain ⟨ps,hps⟩:∃ ps,ps=pAt ts i:=⟨_,rfl⟩
 rw [← hps] at c2;have hbl:b < w.heap.size:=World.block_lt_of_cell? _ _ c0;have hbn:b≠w.heap.size:=by omega
 have HPS:=Hd hps;have KI:∀ (W:World),Only [] w W→∀ x:ByteArray,Calls Tryz.prog 59 #[.slice (some ⟨b,0,none⟩) ts.length cap,.int .i64 (i:Int),.string x] W fun e w'=>e=.returned (.bool (isT ts i x.data.toList))∧W=w':=fun W ho x=>bb (h.quiet ho) (.ok i) hi x;have HKI:=Hd KI;clear h hps c0 c1 KI;rw [← HPS.out] at hR;have KX:∀ (W:World),Only [] w W→Calls Tryz.prog 60 #[.slice (some ⟨b,0,none⟩) ts.length cap,.int .i64 ((i:Int)+1),.int .i64 1,.int .i64 (dp:Int)] W (RE W r):=fun W ho=>by
  have:=cX (H.out.quiet ho) (p:=.ok (i+1)) hi1 dp (by omega);rw [show g8 ts (.ok (i+1)) dp=r from hr.symm,show zP (.ok (i+1))=(i:Int)+1 from by show ((i+1:Nat):Int)=_;omega] at this;exact this
 have KB:∀ (W:World),Only [] w W→Calls Tryz.prog 90 #[.slice (some ⟨b,0,none⟩) ts.length cap,.int .i64 (zR r),.int .i64 (dp:Int)] W (RBl W rb):=fun W ho=>by
  have:=IB W _ (ai r) dp (H.out.quiet ho) har.next.ok (fun j hj=>by
   have h9:=har.next;rw [hj] at h9;have:=h9.1
   omega) hdp
  rw [← bs,← hrb] at this;exact this
 have KE:∀ (W:World),Only [] w W→Calls Tryz.prog 59 #[.slice (some ⟨b,0,none⟩) ts.length cap,.int .i64 (zR rb),.string ⟨#[101,108,115,101]⟩] W fun e w'=>e=.returned (.bool (isP ts (ai rb) [101,108,115,101]))∧W=w':=fun W ho=>by
  have:=bb (H.out.quiet ho) (ai rb) hab.next.ok ⟨#[101,108,115,101]⟩;rw [← bs] at this;exact this
 have HKX:=Hd KX;have HKB:=Hd KB;have HKE:=Hd KE;have HR:=Hd hR;have HRB:=Hd hrb;have HAB:=Hd hab;clear KX KB KE hR hr hrb hab har
 go_enter Tryz.func61,Tryz.ntmps61
 go_wp2_with fail
 refine cp (fun w3 hA3 hB3 o3=>?_);have HA:=Hd hA3;have HB:=Hd hB3;have HO:=Hd o3;have hsz3:w.heap.size+1 < w3.heap.size:=(Array.getElem?_eq_some_iff.1 hB3).1;clear hA3 hB3 o3;refine (HKI.out _ HO.out _).mono ?_;rintro e w' ⟨rfl,rfl⟩;rw [show isT ts i (⟨#[91]⟩:ByteArray).data.toList=false from d1];go_wp2_with fail
 refine (HKI.out _ HO.out _).mono ?_;rintro e w' ⟨rfl,rfl⟩;rw [show isT ts i (⟨#[108,101,116]⟩:ByteArray).data.toList=false from d2];go_wp2_with fail
 refine (HKI.out _ HO.out _).mono ?_;rintro e w' ⟨rfl,rfl⟩;rw [show isT ts i (⟨#[105,102]⟩:ByteArray).data.toList=true from d3];clear d1 d2 d3;have b0:w3.cell? ⟨w.heap.size+1,0,none⟩=some (.int .i64 0):=ab 0 HB.out;have gb:=ae 0 HB.out;go_wp2_with fail
 clear b0 gb;have og:Only [w.heap.size+1] w3 (w3.setCell ⟨w.heap.size+1,0,none⟩ (.int .i64 6)):=oc;have hBg:=af (i:=0) (.int .i64 6) HB.out;have hAg:=og.heap HA.out (by simp);generalize w3.setCell ⟨w.heap.size+1,0,none⟩ (.int .i64 6)=w4 at og hBg hAg⊢;replace HO:=Hd (HO.out.trans (T:=[w.heap.size+1]) og (fun k hk=>.inr (by rw [List.mem_singleton.1 hk];omega)));replace HA:=Hd hAg;replace HB:=Hd hBg;have HOG0:=Hd og;clear og hAg hBg;refine (HKX.out _ HO.out).mono ?_;rintro e w5 ⟨k2,n2,s2,a2,l2,c2',p2,rfl,hv2,o5⟩;have hz4:w3.heap.size≤w4.heap.size:=HOG0.out.size;replace HO:=Hd (HO.out.trans o5 (by simp));replace HA:=Hd (o5.heap HA.out (by simp));replace HB:=Hd (o5.heap HB.out (by simp));have hv3:∀ e j,r=.ok (e,j)→EV w5 (fun b=>w.heap.size+1 < b) e [.int .i64 k2,.int .i64 n2,.string s2,.slice a2 l2 c2',.int .i64 p2]:=fun e j he=>EV.kept (Only.refl [] w5) (by simp) (fun b hb=>by have:w4.heap.size≤b:=hb;omega) e _ (hv2 e j he);have HV:=Hd hv3;have hz5:w4.heap.size≤w5.heap.size:=o5.size;clear hv2 hv3 o5;go_upto_region 14 with (fail)
 obtain ⟨w6,q9,o6,hX6,hs6⟩:=nb w5 (.cells #[.int .i64 k2,.int .i64 n2,.string s2,.slice a2 l2 c2',.int .i64 p2] 95);rw [← q9];clear q9;replace HO:=Hd (HO.out.trans o6 (by simp));replace HA:=Hd (o6.heap HA.out (by simp));replace HB:=Hd (o6.heap HB.out (by simp));replace HV:=Hd (fun e j he=>(HV.out e j he).quiet o6);have hz6:w5.heap.size < w6.heap.size:=by omega
 have x0:w6.cell? ⟨w5.heap.size,0,none⟩=some (.int .i64 k2):=ab 0 hX6;have x1:w6.cell? ⟨w5.heap.size,1,none⟩=some (.int .i64 n2):=ab 1 hX6;have x2:w6.cell? ⟨w5.heap.size,2,none⟩=some (.string s2):=ab 2 hX6;have x3:w6.cell? ⟨w5.heap.size,3,none⟩=some (.slice a2 l2 c2'):=ab 3 hX6;have x4:w6.cell? ⟨w5.heap.size,4,none⟩=some (.int .i64 p2):=ab 4 hX6;have b2:w6.cell? ⟨w.heap.size+1,2,none⟩=some (.slice none 0 0):=ab 2 HB.out;have gb2:=ae 2 HB.out;have lB:w.heap.size+1 < w6.heap.size:=by omega
 have nB:w.heap.size+1≠w6.heap.size:=by omega
 have nX:w5.heap.size≠w6.heap.size:=by omega
 clear hX6 hs6 o6;go_upto_region 15 with (fail)
 have oc:Only [w.heap.size+1] w6 (w6.setCell ⟨w.heap.size+1,2,none⟩ (.slice (some ⟨w6.heap.size,0,none⟩) 1 1)):=oc;have hBc:=af (i:=2) (.slice (some ⟨w6.heap.size,0,none⟩) 1 1) HB.out;have hsc:(w6.setCell ⟨w.heap.size+1,2,none⟩ (.slice (some ⟨w6.heap.size,0,none⟩) 1 1)).heap.size=w6.heap.size:=by simp
 have hAc:=oc.heap HA.out (by simp);generalize w6.setCell ⟨w.heap.size+1,2,none⟩ (.slice (some ⟨w6.heap.size,0,none⟩) 1 1)=wc at oc hBc hsc hAc⊢;have e3:∀ e j,r=.ok (e,j)→EsV (wc.alloc (.cells #[.int .i64 k2,.int .i64 n2,.string s2,.slice a2 l2 c2',.int .i64 p2] 95)) (fun b=>w.heap.size+1 < b) (.slice (some ⟨w6.heap.size,0,none⟩) 1 1) [e]:=fun e j he=>by
  have:=EsV.made1 (EV.kept oc (fun k hk hB=>by rw [List.mem_singleton.1 hk] at hB;exact absurd hB (by omega)) (fun _ h=>h) e _ (HV.out e j he)) (show w.heap.size+1 < wc.heap.size by omega);rw [hsc] at this;exact this
 have od:Only [w.heap.size+1] w6 (wc.alloc (.cells #[.int .i64 k2,.int .i64 n2,.string s2,.slice a2 l2 c2',.int .i64 p2] 95)):=oc.alloc _;have hBd:=ax (.cells #[.int .i64 k2,.int .i64 n2,.string s2,.slice a2 l2 c2',.int .i64 p2] 95) hBc;have hAd:=ax (.cells #[.int .i64 k2,.int .i64 n2,.string s2,.slice a2 l2 c2',.int .i64 p2] 95) hAc;generalize wc.alloc (.cells #[.int .i64 k2,.int .i64 n2,.string s2,.slice a2 l2 c2',.int .i64 p2] 95)=we at e3 od hBd hAd⊢;replace HO:=Hd (HO.out.trans (T:=[w.heap.size+1]) od (fun k hk=>.inr (by rw [List.mem_singleton.1 hk];omega)));replace HA:=Hd hAd;replace HB:=Hd hBd;have hze:w6.heap.size≤we.heap.size:=od.size;have HE:=Hd e3;clear e3 oc hBc hsc hAc od x0 x1 x2 x3 x4 b2 gb2 lB nB nX hBd hAd;go_wp2_with fail
 refine (HKB.out _ HO.out).mono ?_;rintro e wf ⟨a3,l3,c3,rfl,hvb,of_⟩;replace HO:=Hd (HO.out.trans of_ (by simp));replace HA:=Hd (of_.heap HA.out (by simp));replace HB:=Hd (of_.heap HB.out (by simp));replace HE:=Hd (fun e j he=>(HE.out e j he).quiet of_);have HVB:=Hd (show ∀ t j,rb=.ok (t,j)→SsV wf (fun b=>w.heap.size+1 < b) (.slice a3 l3 c3) t from fun t j hj=>(hvb t j hj).kept (Only.refl [] wf) (by simp) (fun b hb=>by have:we.heap.size≤b:=hb;omega));have hzf:we.heap.size≤wf.heap.size:=of_.size;have b4:wf.cell? ⟨w.heap.size+1,4,none⟩=some (.slice none 0 0):=ab 4 HB.out;have gb4:=ae 4 HB.out;clear hvb of_;go_upto_region 16 with (fail)
 clear b4 gb4;have og:Only [w.heap.size+1] wf (wf.setCell ⟨w.heap.size+1,4,none⟩ (.slice a3 l3 c3)):=oc;have hBg:=af (i:=4) (.slice a3 l3 c3) HB.out;have hAg:=og.heap HA.out (by simp);generalize wf.setCell ⟨w.heap.size+1,4,none⟩ (.slice a3 l3 c3)=wg at og hBg hAg⊢;replace HO:=Hd (HO.out.trans (T:=[w.heap.size+1]) og (fun k hk=>.inr (by rw [List.mem_singleton.1 hk];omega)));replace HA:=Hd hAg;replace HB:=Hd hBg;have HOG4:=Hd og;clear og hAg hBg;replace HE:=Hd (fun e j he=>(HE.out e j he).kept HOG4.out (fun k hk hB=>by rw [List.mem_singleton.1 hk] at hB;exact absurd hB (by omega)) (fun _ h=>h));replace HVB:=Hd (fun t j hj=>(HVB.out t j hj).kept HOG4.out (fun k hk hB=>by rw [List.mem_singleton.1 hk] at hB;exact absurd hB (by omega)) (fun _ h=>h));have hzg:wf.heap.size≤wg.heap.size:=HOG4.out.size;go_wp2_with fail
 refine (HKE.out _ HO.out).mono ?_;rintro e w' ⟨rfl,rfl⟩;cases hde:isP ts (ai rb) [101,108,115,101] with
 | false=>
  have HDE:=Hd hde;clear hde;go_upto_region 18 with (fail)
  have s0:wg.cell? ⟨w.heap.size,0,none⟩=some (.int .i64 0):=ab 0 HA.out;have s1:wg.cell? ⟨w.heap.size,1,none⟩=some (.string ⟨#[]⟩):=ab 1 HA.out;have s2:wg.cell? ⟨w.heap.size,2,none⟩=some (.slice none 0 0):=ab 2 HA.out;have s3:wg.cell? ⟨w.heap.size,3,none⟩=some (.int .i64 0):=ab 3 HA.out;have s4:wg.cell? ⟨w.heap.size,4,none⟩=some (.slice none 0 0):=ab 4 HA.out;have s5:wg.cell? ⟨w.heap.size,5,none⟩=some (.slice none 0 0):=ab 5 HA.out;have s6:wg.cell? ⟨w.heap.size,6,none⟩=some (.int .i64 0):=ab 6 HA.out;have gs0:=ae 0 HA.out;have gs1:=ae 1 HA.out;have gs2:=ae 2 HA.out;have gs3:=ae 3 HA.out;have gs4:=ae 4 HA.out;have gs5:=ae 5 HA.out;have gs6:=ae 6 HA.out;have b0:wg.cell? ⟨w.heap.size+1,0,none⟩=some (.int .i64 6):=ab 0 HB.out;have b1:wg.cell? ⟨w.heap.size+1,1,none⟩=some (.string ⟨#[]⟩):=ab 1 HB.out;have b2:wg.cell? ⟨w.heap.size+1,2,none⟩=some (.slice (some ⟨w6.heap.size,0,none⟩) 1 1):=ab 2 HB.out;have b3:wg.cell? ⟨w.heap.size+1,3,none⟩=some (.int .i64 0):=ab 3 HB.out;have b4:wg.cell? ⟨w.heap.size+1,4,none⟩=some (.slice a3 l3 c3):=ab 4 HB.out;have b5:wg.cell? ⟨w.heap.size+1,5,none⟩=some (.slice none 0 0):=ab 5 HB.out;have b6:wg.cell? ⟨w.heap.size+1,6,none⟩=some (.int .i64 (ps:Int)):=ab 6 HB.out;go_wp2_with fail
  have oz:Only [w.heap.size] wg (((((((wg.setCell ⟨w.heap.size,0,none⟩ (.int .i64 6)).setCell ⟨w.heap.size,1,none⟩ (.string ⟨#[]⟩)).setCell ⟨w.heap.size,2,none⟩ (.slice (some ⟨w6.heap.size,0,none⟩) 1 1)).setCell ⟨w.heap.size,3,none⟩ (.int .i64 0)).setCell ⟨w.heap.size,4,none⟩ (.slice a3 l3 c3)).setCell ⟨w.heap.size,5,none⟩ (.slice none 0 0)).setCell ⟨w.heap.size,6,none⟩ (.int .i64 (ps:Int))):=oc;have hz:=aZ HA.out (.int .i64 6) (.string ⟨#[]⟩) (.slice (some ⟨w6.heap.size,0,none⟩) 1 1) (.int .i64 0) (.slice a3 l3 c3) (.slice none 0 0) (.int .i64 (ps:Int));generalize ((((((wg.setCell ⟨w.heap.size,0,none⟩ (.int .i64 6)).setCell ⟨w.heap.size,1,none⟩ (.string ⟨#[]⟩)).setCell ⟨w.heap.size,2,none⟩ (.slice (some ⟨w6.heap.size,0,none⟩) 1 1)).setCell ⟨w.heap.size,3,none⟩ (.int .i64 0)).setCell ⟨w.heap.size,4,none⟩ (.slice a3 l3 c3)).setCell ⟨w.heap.size,5,none⟩ (.slice none 0 0)).setCell ⟨w.heap.size,6,none⟩ (.int .i64 (ps:Int))=wz at oz hz⊢;(try simp only [Exit.inBlock,Exit.then]);refine bodyPost_ret (eL _ _ w.heap.size _ _ _ _ _ _ _ (.int .i64 (zR rb)) rfl rfl hz) rfl ?_;have hzr:zR R=zR rb:=by
   rw [HR.out];have hd:=HDE.out;revert hd;cases rb with
   | error k=>rw [uW];exact fun _=>rfl
   | ok y=>
    obtain ⟨t,a⟩:=y;intro hd;cases r with
    | error k=>cases HRB.out
    | ok x=>
     obtain ⟨e,a'⟩:=x;unfold ifS;dsimp only;rw [if_neg (by rw [show isT ts a [101,108,115,101]=false from hd];decide)];rfl
  refine ⟨6,0,ps,⟨#[]⟩,some ⟨w6.heap.size,0,none⟩,a3,none,1,l3,0,1,c3,0,by rw [hzr],fun s j hs=>?_,?_⟩
  ·rw [HR.out] at hs;obtain ⟨t,a,hrb⟩:∃ t a,rb=.ok (t,a):=by
    cases rb with
    | error k=>rw [uW] at hs;cases hs
    | ok y=>exact ⟨y.1,y.2,rfl⟩
   obtain ⟨e,a',hre⟩:∃ e a',r=.ok (e,a'):=by
    cases r with
    | error k=>rw [hrb] at hs;cases hs
    | ok y=>exact ⟨y.1,y.2,rfl⟩
   have hd:=HDE.out;rw [hrb] at hd;rw [hrb,hre] at hs;unfold ifS at hs;dsimp only at hs;rw [if_neg (by rw [show isT ts a [101,108,115,101]=false from hd];decide)] at hs;have hv1:=HE.out e a' hre;have hv2:=HVB.out t a hrb;cases hs;have e5:=SV.mk' (w:=wg) (B:=fun b=>w.heap.size+1 < b) (k:=6) (n:=0) (p:=ps) (nm:=[]) hv1 hv2 (SsV.nil _ _);refine SV.kept (S:=[w.heap.size]) oz (fun k hk hB=>?_) (fun b hb=>?_) _ _ e5
   ·rw [List.mem_singleton.1 hk] at hB;exact absurd hB (by omega)
   ·show w.heap.size≤b;have:w.heap.size+1 < b:=hb;omega
  ·exact HO.out.trans (T:=[w.heap.size]) oz (fun k hk=>.inr (by rw [List.mem_singleton.1 hk];exact Nat.le_refl _))
 | true=>
  obtain ⟨t,a,hrb⟩:∃ t a,rb=.ok (t,a):=by
   cases rb with
   | error k=>cases hde
   | ok y=>exact ⟨y.1,y.2,rfl⟩
  have hde':isT ts a [101,108,115,101]=true:=by rw [hrb] at hde;exact hde
  obtain ⟨e,a',hre⟩:∃ e a',r=.ok (e,a'):=by
   cases r with
   | error k=>have:=HRB.out;rw [hrb] at this;cases this
   | ok y=>exact ⟨y.1,y.2,rfl⟩
  have haa:i+1 < a∧a < ts.length:=by have:=HAB.out;rw [hrb] at this;exact this
  have ha1:a+1 < ts.length:=aL H.out.ends haa.2 hde';obtain ⟨rc,hrc⟩:∃ rc,rc=aX ts f (a+1) dp:=⟨_,rfl⟩
  have hRR:R=ey (fun c=>.mk 6 [] [e] 0 t c ps) rc:=by
   rw [HR.out,hrb,hre];unfold ifS;dsimp only;rw [if_pos hde',hrc]
  have KB2:∀ (W:World),Only [] w W→Calls Tryz.prog 90 #[.slice (some ⟨b,0,none⟩) ts.length cap,.int .i64 ((a:Int)+1),.int .i64 (dp:Int)] W (RBl W rc):=fun W ho=>by
   have:=IB W _ (.ok (a+1)) dp (H.out.quiet ho) ha1 (fun j hj=>by cases hj;omega) hdp;rw [show fp ts f (.ok (a+1)) dp=rc from hrc.symm,show zP (.ok (a+1))=(a:Int)+1 from by show ((a+1:Nat):Int)=_;omega] at this;exact this
  have HKB2:=Hd KB2;have HRR:=Hd hRR;have HEe:=Hd (HE.out e a' hre);have HVBt:=Hd (HVB.out t a hrb);rw [show zR rb=(a:Int) by rw [hrb];rfl];clear KB2 hRR hre hrb hrc hde hde' HE HVB HRB HAB;go_wp2_with fail
  refine (HKB2.out _ HO.out).mono ?_;rintro e9 wh ⟨a4,l4,c4,rfl,hvc,oh⟩;replace HO:=Hd (HO.out.trans oh (by simp));replace HA:=Hd (oh.heap HA.out (by simp));replace HB:=Hd (oh.heap HB.out (by simp));replace HEe:=Hd (HEe.out.quiet oh);replace HVBt:=Hd (HVBt.out.quiet oh);have HVC:=Hd (show ∀ t j,rc=.ok (t,j)→SsV wh (fun b=>w.heap.size+1 < b) (.slice a4 l4 c4) t from fun t j hj=>(hvc t j hj).kept (Only.refl [] wh) (by simp) (fun b hb=>by have:wg.heap.size≤b:=hb;omega));have hzh:wg.heap.size≤wh.heap.size:=oh.size;have b5:wh.cell? ⟨w.heap.size+1,5,none⟩=some (.slice none 0 0):=ab 5 HB.out;have gb5:=ae 5 HB.out;clear hvc oh;go_upto_region 18 with (fail)
  clear b5 gb5;have og:Only [w.heap.size+1] wh (wh.setCell ⟨w.heap.size+1,5,none⟩ (.slice a4 l4 c4)):=oc;have hBg:=af (i:=5) (.slice a4 l4 c4) HB.out;have hAg:=og.heap HA.out (by simp);generalize wh.setCell ⟨w.heap.size+1,5,none⟩ (.slice a4 l4 c4)=wi at og hBg hAg⊢;replace HO:=Hd (HO.out.trans (T:=[w.heap.size+1]) og (fun k hk=>.inr (by rw [List.mem_singleton.1 hk];omega)));replace HA:=Hd hAg;replace HB:=Hd hBg;have HOG5:=Hd og;clear og hAg hBg;replace HEe:=Hd (HEe.out.kept HOG5.out (fun k hk hB=>by rw [List.mem_singleton.1 hk] at hB;exact absurd hB (by omega)) (fun _ h=>h));replace HVBt:=Hd (HVBt.out.kept HOG5.out (fun k hk hB=>by rw [List.mem_singleton.1 hk] at hB;exact absurd hB (by omega)) (fun _ h=>h));replace HVC:=Hd (fun t j hj=>(HVC.out t j hj).kept HOG5.out (fun k hk hB=>by rw [List.mem_singleton.1 hk] at hB;exact absurd hB (by omega)) (fun _ h=>h));have s0:wi.cell? ⟨w.heap.size,0,none⟩=some (.int .i64 0):=ab 0 HA.out;have s1:wi.cell? ⟨w.heap.size,1,none⟩=some (.string ⟨#[]⟩):=ab 1 HA.out;have s2:wi.cell? ⟨w.heap.size,2,none⟩=some (.slice none 0 0):=ab 2 HA.out;have s3:wi.cell? ⟨w.heap.size,3,none⟩=some (.int .i64 0):=ab 3 HA.out;have s4:wi.cell? ⟨w.heap.size,4,none⟩=some (.slice none 0 0):=ab 4 HA.out;have s5:wi.cell? ⟨w.heap.size,5,none⟩=some (.slice none 0 0):=ab 5 HA.out;have s6:wi.cell? ⟨w.heap.size,6,none⟩=some (.int .i64 0):=ab 6 HA.out;have gs0:=ae 0 HA.out;have gs1:=ae 1 HA.out;have gs2:=ae 2 HA.out;have gs3:=ae 3 HA.out;have gs4:=ae 4 HA.out;have gs5:=ae 5 HA.out;have gs6:=ae 6 HA.out;have b0:wi.cell? ⟨w.heap.size+1,0,none⟩=some (.int .i64 6):=ab 0 HB.out;have b1:wi.cell? ⟨w.heap.size+1,1,none⟩=some (.string ⟨#[]⟩):=ab 1 HB.out;have b2:wi.cell? ⟨w.heap.size+1,2,none⟩=some (.slice (some ⟨w6.heap.size,0,none⟩) 1 1):=ab 2 HB.out;have b3:wi.cell? ⟨w.heap.size+1,3,none⟩=some (.int .i64 0):=ab 3 HB.out;have b4:wi.cell? ⟨w.heap.size+1,4,none⟩=some (.slice a3 l3 c3):=ab 4 HB.out;have b5:wi.cell? ⟨w.heap.size+1,5,none⟩=some (.slice a4 l4 c4):=ab 5 HB.out;have b6:wi.cell? ⟨w.heap.size+1,6,none⟩=some (.int .i64 (ps:Int)):=ab 6 HB.out;go_wp2_with fail
  have oz:Only [w.heap.size] wi (((((((wi.setCell ⟨w.heap.size,0,none⟩ (.int .i64 6)).setCell ⟨w.heap.size,1,none⟩ (.string ⟨#[]⟩)).setCell ⟨w.heap.size,2,none⟩ (.slice (some ⟨w6.heap.size,0,none⟩) 1 1)).setCell ⟨w.heap.size,3,none⟩ (.int .i64 0)).setCell ⟨w.heap.size,4,none⟩ (.slice a3 l3 c3)).setCell ⟨w.heap.size,5,none⟩ (.slice a4 l4 c4)).setCell ⟨w.heap.size,6,none⟩ (.int .i64 (ps:Int))):=oc;have hz:=aZ HA.out (.int .i64 6) (.string ⟨#[]⟩) (.slice (some ⟨w6.heap.size,0,none⟩) 1 1) (.int .i64 0) (.slice a3 l3 c3) (.slice a4 l4 c4) (.int .i64 (ps:Int));generalize ((((((wi.setCell ⟨w.heap.size,0,none⟩ (.int .i64 6)).setCell ⟨w.heap.size,1,none⟩ (.string ⟨#[]⟩)).setCell ⟨w.heap.size,2,none⟩ (.slice (some ⟨w6.heap.size,0,none⟩) 1 1)).setCell ⟨w.heap.size,3,none⟩ (.int .i64 0)).setCell ⟨w.heap.size,4,none⟩ (.slice a3 l3 c3)).setCell ⟨w.heap.size,5,none⟩ (.slice a4 l4 c4)).setCell ⟨w.heap.size,6,none⟩ (.int .i64 (ps:Int))=wz at oz hz⊢;(try simp only [Exit.inBlock,Exit.then]);refine bodyPost_ret (eL _ _ w.heap.size _ _ _ _ _ _ _ (.int .i64 (zR rc)) rfl rfl hz) rfl ?_;refine ⟨6,0,ps,⟨#[]⟩,some ⟨w6.heap.size,0,none⟩,a3,a4,1,l3,l4,1,c3,c4,by rw [HRR.out,mapR_z],fun s j hs=>?_,?_⟩
  ·rw [HRR.out] at hs;obtain ⟨c,hc,rfl⟩:=uV hs;have e5:=SV.mk' (w:=wi) (B:=fun b=>w.heap.size+1 < b) (k:=6) (n:=0) (p:=ps) (nm:=[]) HEe.out HVBt.out (HVC.out c j hc);refine SV.kept (S:=[w.heap.size]) oz (fun k hk hB=>?_) (fun b hb=>?_) _ _ e5
   ·rw [List.mem_singleton.1 hk] at hB;exact absurd hB (by omega)
   ·show w.heap.size≤b;have:w.heap.size+1 < b:=hb;omega
  ·exact HO.out.trans (T:=[w.heap.size]) oz (fun k hk=>.inr (by rw [List.mem_singleton.1 hk];exact Nat.le_refl _))
end
end Go.Proofs.YtcebchffcmpfeaaGreat
