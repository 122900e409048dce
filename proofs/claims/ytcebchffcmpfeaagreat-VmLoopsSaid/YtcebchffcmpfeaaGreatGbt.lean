import Derived.Test.YtcebchffcmpfeaaGreatG7t
namespace Go.Proofs.YtcebchffcmpfeaaGreat
set_option linter.unusedVariables false
set_option linter.unusedSimpArgs false
set_option maxRecDepth 100000
set_option maxHeartbeats 16000000
open Go.RowKit Go.Maps
theorem gZ (tmps:Array Value) (w:World) (g:Nat) (v0 v1 v2 v3 v4 z:Value) (h6:tmps.getD 10 undef=.pointer (some ⟨g,0,none⟩)) (h7:tmps.getD 11 undef=z) (h:w.heap[g]?=some (.cells #[v0,v1,v2,v3,v4] 95 (0,0))) :
  (results Tryz.f109 tmps).run Tryz.prog w=.ok (.tuple #[.agg #[v0,v1,v2,v3,v4],z]) w:=by
 have hl:=jm w g v0 v1 v2 v3 v4 h;have h6':tmps[10]?.getD undef=.pointer (some ⟨g,0,none⟩):=by simpa using h6
 have h7':tmps[11]?.getD undef=z:=by simpa using h7
 simp [results,Tryz.results109,asAddr,h6',h7',hl]
def iA (ts:List Tok) (r:Except Nat (E×Nat)) (c:Sec):Except Nat (E×Nat):=match r with
 | .error k=>.error k
 | .ok (e,a)=>match bE ts a c with
  | .error k=>.error k
  | .ok a=>.ok (e,a)
theorem closeR_z (ts:List Tok) (r:Except Nat (E×Nat)) (c:Sec):zR (iA ts r c)=zP (ba ts (ai r) c):=by
 cases r with
 | error k=>rfl
 | ok y=>
  obtain ⟨t,a⟩:=y;show zR (match bE ts a c with | .error k=>.error k | .ok a=>.ok (t,a))=zP (bE ts a c);cases bE ts a c<;>rfl
theorem uO {ts:List Tok} {r:Except Nat (E×Nat)} {c:Sec} {t:E} {j:Nat} (h:iA ts r c=.ok (t,j)):∃ a,r=.ok (t,a):=by
 cases r with
 | error k=>cases h
 | ok y=>
  obtain ⟨t',a⟩:=y;unfold iA at h;cases hc:bE ts a c<;>simp [hc] at h
  exact ⟨a,by rw [h.1]⟩
section
variable {w w':World} {v:Value} {ts:List Tok}
theorem jp (h:TS w v ts) (k:Nat) (least dp:Int):Calls Tryz.prog 60 #[v,.int .i64 (zP (.error k)),.int .i64 least,.int .i64 dp] w (RE w (.error k)):=by
 obtain ⟨a,cap,rfl⟩:=h.shape;have KS:=sa (h.quiet ((Only.refl [] w).alloc (.cells #[.int .i64 0,.int .i64 0,.string ⟨#[]⟩,.slice none 0 0,.int .i64 0] 95))) k dp;obtain ⟨y,hy,hy0,hy1⟩:=mR k;rw [hy] at KS⊢;have HY:=Hd (And.intro hy hy1);clear h hy hy1
 go_enter Tryz.func60,Tryz.ntmps60
 go_wp2_with fail
 refine KS.mono ?_;rintro e w2 ⟨k',n',s',a',l',c',p',rfl,hv,o2⟩;have hz:zR (.error k:Except Nat (E×Nat))=y:=HY.out.2.symm;rw [hz];have hA2:=o2.heap (ag w (.cells #[.int .i64 0,.int .i64 0,.string ⟨#[]⟩,.slice none 0 0,.int .i64 0] 95)) (by simp);have ow:=(((Only.refl [] w).alloc (.cells #[.int .i64 0,.int .i64 0,.string ⟨#[]⟩,.slice none 0 0,.int .i64 0] 95)).trans o2 (by simp)).alloc (.cells #[.int .i64 k',.int .i64 n',.string s',.slice a' l' c',.int .i64 p'] 95);have li:=And.intro ow (And.intro (ax (.cells #[.int .i64 k',.int .i64 n',.string s',.slice a' l' c',.int .i64 p'] 95) hA2) (ag w2 (.cells #[.int .i64 k',.int .i64 n',.string s',.slice a' l' c',.int .i64 p'] 95)));have LI0:=Hd li;clear li hA2 ow KS hv o2 hz;go_wp2_with fail
 generalize hg10:w2.heap.size=g10 at LI0⊢;generalize w2.alloc (.cells #[.int .i64 k',.int .i64 n',.string s',.slice a' l' c',.int .i64 p'] 95)=w3 at LI0⊢;clear hg10
 go_loopw [1,11] (fun at_ mo wr=>at_=.int .i64 y∧mo=.int .i64 5∧Hid (wr=w3)) (fun _ _ _=>0)
 case atStart=>exact ⟨rfl,rfl,Hd rfl⟩
 case round=>
  obtain ⟨rfl,rfl,L⟩:=hrel;obtain rfl:=L.out;have b0:wr.cell? ⟨g10,0,none⟩=some (.int .i64 k'):=ab 0 LI0.out.2.2;have b1:wr.cell? ⟨g10,1,none⟩=some (.int .i64 n'):=ab 1 LI0.out.2.2;have b2:wr.cell? ⟨g10,2,none⟩=some (.string s'):=ab 2 LI0.out.2.2;have b3:wr.cell? ⟨g10,3,none⟩=some (.slice a' l' c'):=ab 3 LI0.out.2.2;have b4:wr.cell? ⟨g10,4,none⟩=some (.int .i64 p'):=ab 4 LI0.out.2.2;have s0:wr.cell? ⟨w.heap.size,0,none⟩=some (.int .i64 0):=ab 0 LI0.out.2.1;have s1:wr.cell? ⟨w.heap.size,1,none⟩=some (.int .i64 0):=ab 1 LI0.out.2.1;have s2:wr.cell? ⟨w.heap.size,2,none⟩=some (.string ⟨#[]⟩):=ab 2 LI0.out.2.1;have s3:wr.cell? ⟨w.heap.size,3,none⟩=some (.slice none 0 0):=ab 3 LI0.out.2.1;have s4:wr.cell? ⟨w.heap.size,4,none⟩=some (.int .i64 0):=ab 4 LI0.out.2.1;have gs0:=ae 0 LI0.out.2.1;have gs1:=ae 1 LI0.out.2.1;have gs2:=ae 2 LI0.out.2.1;have gs3:=ae 3 LI0.out.2.1;have gs4:=ae 4 LI0.out.2.1;go_wp2_with fail
  have ob:Only [w.heap.size] wr (((((wr.setCell ⟨w.heap.size,0,none⟩ (.int .i64 k')).setCell ⟨w.heap.size,1,none⟩ (.int .i64 n')).setCell ⟨w.heap.size,2,none⟩ (.string s')).setCell ⟨w.heap.size,3,none⟩ (.slice a' l' c')).setCell ⟨w.heap.size,4,none⟩ (.int .i64 p')):=oc;have hzb:=aD LI0.out.2.1 (.int .i64 k') (.int .i64 n') (.string s') (.slice a' l' c') (.int .i64 p');generalize ((((wr.setCell ⟨w.heap.size,0,none⟩ (.int .i64 k')).setCell ⟨w.heap.size,1,none⟩ (.int .i64 n')).setCell ⟨w.heap.size,2,none⟩ (.string s')).setCell ⟨w.heap.size,3,none⟩ (.slice a' l' c')).setCell ⟨w.heap.size,4,none⟩ (.int .i64 p')=wz at ob hzb⊢;(try simp only [Exit.inBlock,Exit.then]);refine bodyPost_ret (eK _ _ w.heap.size _ _ _ _ _ (.int .i64 y) rfl rfl hzb) rfl ?_;refine RE.bad HY.out.2 ?_;exact LI0.out.1.trans (T:=[w.heap.size]) ob (fun k hk=>.inr (by rw [List.mem_singleton.1 hk];exact Nat.le_refl _))
theorem jq (h:TS w v ts) (p:Except Nat Nat) (hp:aM ts p) (dp:Nat) (hdp:dp≤13) (x y:ByteArray) (hb:¬ (12≤dp∧isP ts p x.data.toList=true)) (r:Except Nat (E×Nat)) (hr:aM ts (ai r))
  (KE:∀ W,Only [] w W→Calls Tryz.prog 60 #[v,.int .i64 (zP (ba ts p x.data.toList)),.int .i64 1,.int .i64 ((dp:Int)+1)] W (RE W r)) :
  Calls Tryz.prog 109 #[v,.int .i64 (zP p),.int .i64 (dp:Int),.string x,.string y] w (RE w (iA ts r y.data.toList)):=by
 obtain ⟨a,cap,rfl⟩:=h.shape;have hlen:=h.len;have H:=Hd h;have KI:=fun (W:World) (ho:Only [] w W)=>bb (h.quiet ho) p hp x;have KT:=fun (W:World) (ho:Only [] w W)=>aH (h.quiet ho) p hp x;have KC:=fun (W:World) (ho:Only [] w W)=>aH (h.quiet ho) (ai r) hr y;rw [← bs] at KC;have HCz:=Hd (closeR_z ts r y.data.toList);have HCo:=Hd (fun t j=>uO (ts:=ts) (r:=r) (c:=y.data.toList) (t:=t) (j:=j));generalize zP p=zp at KI KT⊢;generalize zP (ba ts p x.data.toList)=ze at KT KE;generalize zP (ba ts (ai r) y.data.toList)=zc at KC HCz;generalize isP ts p x.data.toList=bx at KI hb;generalize iA ts r y.data.toList=R at HCz HCo⊢;have HKI:=Hd KI;have HKT:=Hd KT;have HKC:=Hd KC;have HKE:=Hd KE;clear KI KT KC KE h hr hp
 go_enter Tryz.func109,Tryz.ntmps109
 by_cases h12:12≤dp
 ·have h12':(12:Int)≤(dp:Int):=by omega
  obtain rfl:bx=false:=by
   cases bx
   ·rfl
   ·exact absurd ⟨h12,rfl⟩ hb
  clear hb;go_wp2_with fail
  refine (HKI.out _ ((Only.refl [] w).alloc _)).mono ?_;rintro e w' ⟨rfl,rfl⟩;go_wp2_with fail
  refine (HKT.out _ ((Only.refl [] w).alloc _)).mono ?_;rintro e w' ⟨rfl,rfl⟩;go_wp2_with fail
  refine (HKE.out _ ((Only.refl [] w).alloc _)).mono ?_;rintro e w4 ⟨k',n',s',a',l',c',p',rfl,hv,o4⟩;have hA4:=o4.heap (ag w (.cells #[.int .i64 0,.int .i64 0,.string ⟨#[]⟩,.slice none 0 0,.int .i64 0] 95)) (by simp);have o04:=((Only.refl [] w).alloc (.cells #[.int .i64 0,.int .i64 0,.string ⟨#[]⟩,.slice none 0 0,.int .i64 0] 95)).trans o4 (by simp);have hsz1:(w.alloc (.cells #[.int .i64 0,.int .i64 0,.string ⟨#[]⟩,.slice none 0 0,.int .i64 0] 95)).heap.size=w.heap.size+1:=Array.size_push _;have hvv:∀ t i,r=.ok (t,i)→EV w4 (fun b=>w.heap.size+1≤b) t [.int .i64 k',.int .i64 n',.string s',.slice a' l' c',.int .i64 p']:=by
   intro t i e;have:=hv t i e;rw [hsz1] at this;exact this
  have HV:=Hd hvv;clear hv o4 hsz1 hvv;go_upto_region 4 with (fail)
  obtain ⟨w5,q9,o5,hX5,-⟩:=nb w4 (.cells #[.int .i64 k',.int .i64 n',.string s',.slice a' l' c',.int .i64 p'] 95);rw [← q9];clear q9;have oD:Only [] w5 w5.drew:=(Only.refl [] w5).drew;have hXd:=oD.heap hX5 (by simp);have hAd:=oD.heap (o5.heap hA4 (by simp)) (by simp);have HOd:=Hd (o5.trans oD (by simp));have HO4:=Hd o04;have hne:w.heap.size < w4.heap.size:=(Array.getElem?_eq_some_iff.1 hA4).1;clear o5 hX5 hA4 o04 oD;refine wp_region_held_drew (S:=fun w'=>w'.cell? ⟨w4.heap.size,0,none⟩=some (.int .i64 k')∧w'.cell? ⟨w4.heap.size,1,none⟩=some (.int .i64 n')∧w'.cell? ⟨w4.heap.size,2,none⟩=some (.string s')∧w'.cell? ⟨w4.heap.size,3,none⟩=some (.slice a' l' c')∧w'.cell? ⟨w4.heap.size,4,none⟩=some (.int .i64 p')) (by kernel_rfl) ⟨ab 0 hXd,ab 1 hXd,ab 2 hXd,ab 3 hXd,ab 4 hXd⟩ (fun hH=>?_);have HXd:=Hd hXd;have HAd:=Hd hAd;clear hXd hAd;generalize w5.drew=wd at HXd HAd HOd hH⊢;refine tk 0 hH ?_;refine tk 1 hH ?_;refine tk 2 hH ?_;refine tk 3 hH ?_;refine rd 4 (fun K hK=>?_);go_simp;refine (HKC.out _ (HO4.out.trans HOd.out (by simp))).mono ?_;rintro e w' ⟨rfl,rfl⟩;refine hK.out _ _ hH (fun hH=>?_);clear hK K;have s0:wd.cell? ⟨w.heap.size,0,none⟩=some (.int .i64 0):=ab 0 HAd.out;have s1:wd.cell? ⟨w.heap.size,1,none⟩=some (.int .i64 0):=ab 1 HAd.out;have s2:wd.cell? ⟨w.heap.size,2,none⟩=some (.string ⟨#[]⟩):=ab 2 HAd.out;have s3:wd.cell? ⟨w.heap.size,3,none⟩=some (.slice none 0 0):=ab 3 HAd.out;have s4:wd.cell? ⟨w.heap.size,4,none⟩=some (.int .i64 0):=ab 4 HAd.out;have gs0:=ae 0 HAd.out;have gs1:=ae 1 HAd.out;have gs2:=ae 2 HAd.out;have gs3:=ae 3 HAd.out;have gs4:=ae 4 HAd.out;clear hH;refine rd 5 (fun K hK=>?_);go_simp;have oz:Only [w.heap.size] wd (((((wd.setCell ⟨w.heap.size,0,none⟩ (.int .i64 k')).setCell ⟨w.heap.size,1,none⟩ (.int .i64 n')).setCell ⟨w.heap.size,2,none⟩ (.string s')).setCell ⟨w.heap.size,3,none⟩ (.slice a' l' c')).setCell ⟨w.heap.size,4,none⟩ (.int .i64 p')):=oc;have hz:=aD HAd.out (.int .i64 k') (.int .i64 n') (.string s') (.slice a' l' c') (.int .i64 p');have hXz:=oz.heap HXd.out (by simp;omega);generalize ((((wd.setCell ⟨w.heap.size,0,none⟩ (.int .i64 k')).setCell ⟨w.heap.size,1,none⟩ (.int .i64 n')).setCell ⟨w.heap.size,2,none⟩ (.string s')).setCell ⟨w.heap.size,3,none⟩ (.slice a' l' c')).setCell ⟨w.heap.size,4,none⟩ (.int .i64 p')=wz at oz hz hXz⊢;have HOz:=Hd oz;have HZ:=Hd hz;refine hK.out _ _ ⟨ab 0 hXz,ab 1 hXz,ab 2 hXz,ab 3 hXz,ab 4 hXz⟩ (fun hH=>?_);clear hK K hz hXz oz s0 s1 s2 s3 s4 gs0 gs1 gs2 gs3 gs4;refine tk 6 hH ?_;refine wpAnyH_done (by kernel_rfl) ?_ _;clear hH;go_wp2_with fail
  (try simp only [Exit.inBlock,Exit.then]);refine bodyPost_ret (gZ _ _ w.heap.size _ _ _ _ _ (.int .i64 zc) rfl rfl HZ.out) rfl ?_;refine ⟨k',n',s',a',l',c',p',by rw [HCz.out],fun t i e=>?_,?_⟩
  ·obtain ⟨a2,ha2⟩:=HCo.out t i e;refine EV.kept (S:=[w.heap.size]) ((HOd.out.mono (T:=[w.heap.size]) (by simp)).trans HOz.out (fun k hk=>.inl hk)) (fun k hk hB=>?_) (fun b hb=>?_) t _ (HV.out t a2 ha2)
   ·rw [List.mem_singleton.1 hk] at hB;omega
   ·show w.heap.size≤b;have:w.heap.size+1≤b:=hb;omega
  ·exact ((HO4.out.trans HOd.out (by simp)).trans (T:=[w.heap.size]) HOz.out (fun k hk=>.inr (by rw [List.mem_singleton.1 hk];exact Nat.le_refl _)))
 ·have h12':¬ (12:Int)≤(dp:Int):=by omega
  clear hb;go_wp2_with fail
  refine (HKT.out _ ((Only.refl [] w).alloc _)).mono ?_;rintro e w' ⟨rfl,rfl⟩;go_wp2_with fail
  refine (HKE.out _ ((Only.refl [] w).alloc _)).mono ?_;rintro e w4 ⟨k',n',s',a',l',c',p',rfl,hv,o4⟩;have hA4:=o4.heap (ag w (.cells #[.int .i64 0,.int .i64 0,.string ⟨#[]⟩,.slice none 0 0,.int .i64 0] 95)) (by simp);have o04:=((Only.refl [] w).alloc (.cells #[.int .i64 0,.int .i64 0,.string ⟨#[]⟩,.slice none 0 0,.int .i64 0] 95)).trans o4 (by simp);have hsz1:(w.alloc (.cells #[.int .i64 0,.int .i64 0,.string ⟨#[]⟩,.slice none 0 0,.int .i64 0] 95)).heap.size=w.heap.size+1:=Array.size_push _;have hvv:∀ t i,r=.ok (t,i)→EV w4 (fun b=>w.heap.size+1≤b) t [.int .i64 k',.int .i64 n',.string s',.slice a' l' c',.int .i64 p']:=by
   intro t i e;have:=hv t i e;rw [hsz1] at this;exact this
  have HV:=Hd hvv;clear hv o4 hsz1 hvv;go_upto_region 4 with (fail)
  obtain ⟨w5,q9,o5,hX5,-⟩:=nb w4 (.cells #[.int .i64 k',.int .i64 n',.string s',.slice a' l' c',.int .i64 p'] 95);rw [← q9];clear q9;have oD:Only [] w5 w5.drew:=(Only.refl [] w5).drew;have hXd:=oD.heap hX5 (by simp);have hAd:=oD.heap (o5.heap hA4 (by simp)) (by simp);have HOd:=Hd (o5.trans oD (by simp));have HO4:=Hd o04;have hne:w.heap.size < w4.heap.size:=(Array.getElem?_eq_some_iff.1 hA4).1;clear o5 hX5 hA4 o04 oD;refine wp_region_held_drew (S:=fun w'=>w'.cell? ⟨w4.heap.size,0,none⟩=some (.int .i64 k')∧w'.cell? ⟨w4.heap.size,1,none⟩=some (.int .i64 n')∧w'.cell? ⟨w4.heap.size,2,none⟩=some (.string s')∧w'.cell? ⟨w4.heap.size,3,none⟩=some (.slice a' l' c')∧w'.cell? ⟨w4.heap.size,4,none⟩=some (.int .i64 p')) (by kernel_rfl) ⟨ab 0 hXd,ab 1 hXd,ab 2 hXd,ab 3 hXd,ab 4 hXd⟩ (fun hH=>?_);have HXd:=Hd hXd;have HAd:=Hd hAd;clear hXd hAd;generalize w5.drew=wd at HXd HAd HOd hH⊢;refine tk 0 hH ?_;refine tk 1 hH ?_;refine tk 2 hH ?_;refine tk 3 hH ?_;refine rd 4 (fun K hK=>?_);go_simp;refine (HKC.out _ (HO4.out.trans HOd.out (by simp))).mono ?_;rintro e w' ⟨rfl,rfl⟩;refine hK.out _ _ hH (fun hH=>?_);clear hK K;have s0:wd.cell? ⟨w.heap.size,0,none⟩=some (.int .i64 0):=ab 0 HAd.out;have s1:wd.cell? ⟨w.heap.size,1,none⟩=some (.int .i64 0):=ab 1 HAd.out;have s2:wd.cell? ⟨w.heap.size,2,none⟩=some (.string ⟨#[]⟩):=ab 2 HAd.out;have s3:wd.cell? ⟨w.heap.size,3,none⟩=some (.slice none 0 0):=ab 3 HAd.out;have s4:wd.cell? ⟨w.heap.size,4,none⟩=some (.int .i64 0):=ab 4 HAd.out;have gs0:=ae 0 HAd.out;have gs1:=ae 1 HAd.out;have gs2:=ae 2 HAd.out;have gs3:=ae 3 HAd.out;have gs4:=ae 4 HAd.out;clear hH;refine rd 5 (fun K hK=>?_);go_simp;have oz:Only [w.heap.size] wd (((((wd.setCell ⟨w.heap.size,0,none⟩ (.int .i64 k')).setCell ⟨w.heap.size,1,none⟩ (.int .i64 n')).setCell ⟨w.heap.size,2,none⟩ (.string s')).setCell ⟨w.heap.size,3,none⟩ (.slice a' l' c')).setCell ⟨w.heap.size,4,none⟩ (.int .i64 p')):=oc;have hz:=aD HAd.out (.int .i64 k') (.int .i64 n') (.string s') (.slice a' l' c') (.int .i64 p');have hXz:=oz.heap HXd.out (by simp;omega);generalize ((((wd.setCell ⟨w.heap.size,0,none⟩ (.int .i64 k')).setCell ⟨w.heap.size,1,none⟩ (.int .i64 n')).setCell ⟨w.heap.size,2,none⟩ (.string s')).setCell ⟨w.heap.size,3,none⟩ (.slice a' l' c')).setCell ⟨w.heap.size,4,none⟩ (.int .i64 p')=wz at oz hz hXz⊢;have HOz:=Hd oz;have HZ:=Hd hz;refine hK.out _ _ ⟨ab 0 hXz,ab 1 hXz,ab 2 hXz,ab 3 hXz,ab 4 hXz⟩ (fun hH=>?_);clear hK K hz hXz oz s0 s1 s2 s3 s4 gs0 gs1 gs2 gs3 gs4;refine tk 6 hH ?_;refine wpAnyH_done (by kernel_rfl) ?_ _;clear hH;go_wp2_with fail
  (try simp only [Exit.inBlock,Exit.then]);refine bodyPost_ret (gZ _ _ w.heap.size _ _ _ _ _ (.int .i64 zc) rfl rfl HZ.out) rfl ?_;refine ⟨k',n',s',a',l',c',p',by rw [HCz.out],fun t i e=>?_,?_⟩
  ·obtain ⟨a2,ha2⟩:=HCo.out t i e;refine EV.kept (S:=[w.heap.size]) ((HOd.out.mono (T:=[w.heap.size]) (by simp)).trans HOz.out (fun k hk=>.inl hk)) (fun k hk hB=>?_) (fun b hb=>?_) t _ (HV.out t a2 ha2)
   ·rw [List.mem_singleton.1 hk] at hB;omega
   ·show w.heap.size≤b;have:w.heap.size+1≤b:=hb;omega
  ·exact ((HO4.out.trans HOd.out (by simp)).trans (T:=[w.heap.size]) HOz.out (fun k hk=>.inr (by rw [List.mem_singleton.1 hk];exact Nat.le_refl _)))
end
theorem fY {α:Type} {ts:List Tok} {i:Nat} {r:Except Nat (α×Nat)} (h:Adv ts i r):aM ts (ai r):=by
 cases r with
 | error k=>exact h.2
 | ok y=>
  obtain ⟨t,a⟩:=y;exact h.2
section
variable {w w':World} {v:Value} {ts:List Tok}
theorem uP (h:TS w v ts) {i:Nat} (hi:i < ts.length) (dp:Nat) (hdp:dp≤13) (x y:ByteArray) (h12:12≤dp) (hx:isT ts i x.data.toList=true) :
  Calls Tryz.prog 109 #[v,.int .i64 (i:Int),.int .i64 (dp:Int),.string x,.string y] w (RE w (.error i)):=by
 obtain ⟨a,cap,rfl⟩:=h.shape;have hlen:=h.len;have KI:=fun (W:World) (ho:Only [] w W)=>bb (h.quiet ho) (.ok i) hi x;rw [show isP ts (.ok i) x.data.toList=true from hx] at KI;have HKI:=Hd KI;have h12':(12:Int)≤(dp:Int):=by omega
 have i0:(0:Int)≤(i:Int):=by omega
 clear KI h hx
 go_enter Tryz.func109,Tryz.ntmps109
 go_wp2_with fail
 refine (HKI.out _ ((Only.refl [] w).alloc _)).mono ?_;rintro e w' ⟨rfl,rfl⟩;go_wp2_with fail
 refine (bZ i (by omega) _).mono ?_;rintro e w' ⟨rfl,rfl⟩;go_wp2_with fail
 (try simp only [Exit.inBlock,Exit.then]);refine bodyPost_ret (gZ _ _ w.heap.size (.int .i64 0) (.int .i64 0) (.string ⟨#[]⟩) (.slice none 0 0) (.int .i64 0) (.int .i64 (-1 - (i:Int))) rfl rfl ?_) rfl ?_
 ·first | exact ag w _ | exact aD (ag w _) _ _ _ _ _
 ·refine RE.bad rfl ?_
  repeat' (first | with_reducible exact Only.refl _ _ | with_reducible refine Only.alloc ?_ _ | with_reducible refine Only.setCell ?_ (Or.inr ?_) _ | (dsimp only;omega))
theorem mU (f:Nat) (IE:ExprC ts f):pC ts (f+1):=by
 intro w v i dp x y h hi hf hdp
 by_cases hb:12≤dp∧isT ts i x.data.toList=true
 ·rw [show aO ts (f+1) i dp x.data.toList y.data.toList=.error i from by unfold aO;exact if_pos hb];exact uP h hi dp hdp x y hb.1 hb.2
 ·by_cases hx:isT ts i x.data.toList=true
  ·have hR:aO ts (f+1) i dp x.data.toList y.data.toList=iA ts (cT ts f (i+1) 1 (dp+1)) y.data.toList:=by
    unfold aO;rw [if_neg hb,if_pos hx];unfold iA;cases cT ts f (i+1) 1 (dp+1)<;>rfl
   have hd:dp < 12:=by
    rcases Nat.lt_or_ge dp 12 with h1 | h1
    ·exact h1
    ·exact absurd ⟨h1,hx⟩ hb
   have hi1:i+1 < ts.length:=aL h.ends hi hx;rw [hR];refine jq h (.ok i) hi dp hdp x y hb _ (fY ((bi h.ends f).1 (i+1) 1 (dp+1) hi1)) (fun W ho=>?_);rw [show zP (ba ts (.ok i) x.data.toList)=((i+1:Nat):Int) from by show zP (bE ts i x.data.toList)=_;unfold bE;rw [if_pos hx];rfl];exact IE W v (i+1) 1 (dp+1) (h.quiet ho) hi1 (by omega) (by omega) (by omega)
  ·have hR:aO ts (f+1) i dp x.data.toList y.data.toList=iA ts (.error i) y.data.toList:=by
    unfold aO;rw [if_neg hb,if_neg hx];rfl
   rw [hR];refine jq h (.ok i) hi dp hdp x y hb _ hi (fun W ho=>?_);rw [show zP (ba ts (.ok i) x.data.toList)=zP (.error i) from by show zP (bE ts i x.data.toList)=_;unfold bE;rw [if_neg hx]];exact jp (h.quiet ho) i 1 ((dp:Int)+1)
theorem qV (ts:List Tok) (f:Nat):qU ts f∧pC ts f∧ExprC ts f:=by
 induction f using Nat.strongRecOn with
 | _ f ih=>
  cases f with
  | zero=>
   refine ⟨fun w v i dp _ _ hf _=>?_,fun w v i dp x y _ _ hf _=>?_,fun w v i l dp _ _ hf _ _=>?_⟩
   all_goals omega
  | succ f=>
   obtain ⟨h1,h2,h3⟩:=ih f (by omega);exact ⟨pG f h1 h2,mU f h3,sg f h1 (fun g hg=>(ih g (by omega)).2.2)⟩
def g8 (ts:List Tok) (p:Except Nat Nat) (dp:Nat):Except Nat (E×Nat):=match p with | .ok i=>br ts i dp | .error k=>.error k
def lU (ts:List Tok) (p:Except Nat Nat) (dp:Nat):Except Nat (E×Nat):=match p with | .ok i=>bP ts i dp | .error k=>.error k
theorem i6 (he:Ends ts) {p:Except Nat Nat} (hp:aM ts p) (dp:Nat):aM ts (ai (g8 ts p dp)):=by
 cases p with
 | error k=>exact hp
 | ok i=>exact fY ((bi he _).1 i 1 dp hp)
theorem kO (he:Ends ts) {p:Except Nat Nat} (hp:aM ts p) (dp:Nat):aM ts (ai (lU ts p dp)):=by
 cases p with
 | error k=>exact hp
 | ok i=>exact fY ((bi he _).2.2.2 i dp [91] [93] hp)
theorem cX (h:TS w v ts) {p:Except Nat Nat} (hp:aM ts p) (dp:Nat) (hdp:dp≤13) :
  Calls Tryz.prog 60 #[v,.int .i64 (zP p),.int .i64 1,.int .i64 (dp:Int)] w (RE w (g8 ts p dp)):=by
 cases p with
 | error k=>exact jp h k 1 dp
 | ok i=>exact (qV ts _).2.2 w v i 1 dp h hp (by omega) (by omega) hdp
theorem jr (h:TS w v ts) {p:Except Nat Nat} (hp:aM ts p) (dp:Nat) (hdp:dp≤13) :
  Calls Tryz.prog 109 #[v,.int .i64 (zP p),.int .i64 (dp:Int),.string ⟨#[91]⟩,.string ⟨#[93]⟩] w (RE w (lU ts p dp)):=by
 cases p with
 | error k=>exact jq h (.error k) hp dp hdp ⟨#[91]⟩ ⟨#[93]⟩ (fun e=>by cases e.2) (.error k) hp (fun W ho=>jp (h.quiet ho) k 1 ((dp:Int)+1))
 | ok i=>exact (qV ts _).2.1 w v i dp ⟨#[91]⟩ ⟨#[93]⟩ h hp (by omega) hdp
end
mutual
def SV (w:World) (B:Nat→Prop):St→List Value→Prop
 | .mk k nm xs n bd els p,cs=>∃ (va:Value) (a1:Option Addr) (c1:Nat) (a2:Option Addr) (c2:Nat),cs=[.int .i64 k,.string (aj nm),va,.int .i64 n,.slice a1 bd.length c1,.slice a2 els.length c2,.int .i64 p]∧EsV w B va xs∧
   (bd.length≤c1∧(bd=[]∨∃ g,a1=some ⟨g,0,none⟩∧B g∧SsAt w B g 0 bd))∧(els.length≤c2∧(els=[]∨∃ g,a2=some ⟨g,0,none⟩∧B g∧SsAt w B g 0 els))
def SsAt (w:World) (B:Nat→Prop) (g:Nat):Nat→List St→Prop
 | _,[]=>True
 | i,s :: ss=>(∃ cs,SV w B s cs∧∀ j,j < 7→w.cell? ⟨g,i*7+j,none⟩=cs[j]?)∧SsAt w B g (i+1) ss
end
def SsV (w:World) (B:Nat→Prop) (v:Value) (l:List St):Prop:=
 ∃ (a:Option Addr) (cap:Nat),v=.slice a l.length cap∧l.length≤cap∧(l=[]∨∃ g,a=some ⟨g,0,none⟩∧B g∧SsAt w B g 0 l)
theorem SV.mk' {w:World} {B:Nat→Prop} {k n p:Int} {nm:Sec} {xs:List E} {bd els:List St} {va vb vc:Value} (h:EsV w B va xs) (hb:SsV w B vb bd) (hc:SsV w B vc els) :
  SV w B (.mk k nm xs n bd els p) [.int .i64 k,.string (aj nm),va,.int .i64 n,vb,vc,.int .i64 p]:=by
 obtain ⟨a1,c1,rfl,h1⟩:=hb;obtain ⟨a2,c2,rfl,h2⟩:=hc;unfold SV;exact ⟨va,a1,c1,a2,c2,rfl,h,h1,h2⟩
theorem SV.len {w:World} {B:Nat→Prop} {s:St} {cs:List Value} (h:SV w B s cs):cs.length=7:=by
 cases s;unfold SV at h;obtain ⟨va,a1,c1,a2,c2,rfl,_⟩:=h;rfl
mutual
theorem SV.kept {w w':World} {S:List Nat} {B B':Nat→Prop} (ho:Only S w w') (hs:∀ k∈S,¬ B k) (hB:∀ k,B k→B' k):∀ (s:St) (cs:List Value),SV w B s cs→SV w' B' s cs
 | .mk k nm xs n bd els p,cs,h=>by
  unfold SV at h⊢;obtain ⟨va,a1,c1,a2,c2,h1,h2,⟨h3,h4⟩,h5,h6⟩:=h;refine ⟨va,a1,c1,a2,c2,h1,h2.kept ho hs hB,⟨h3,h4.imp id ?_⟩,h5,h6.imp id ?_⟩
  ·rintro ⟨g,e1,e2,e3⟩;exact ⟨g,e1,hB g e2,SsAt.kept ho hs hB e2 0 bd e3⟩
  ·rintro ⟨g,e1,e2,e3⟩;exact ⟨g,e1,hB g e2,SsAt.kept ho hs hB e2 0 els e3⟩
theorem SsAt.kept {w w':World} {S:List Nat} {B B':Nat→Prop} (ho:Only S w w') (hs:∀ k∈S,¬ B k) (hB:∀ k,B k→B' k) {g:Nat} (hg:B g):∀ (i:Nat) (l:List St),SsAt w B g i l→SsAt w' B' g i l
 | _,[],h=>by unfold SsAt;trivial
 | i,s :: ss,h=>by
  unfold SsAt at h⊢;obtain ⟨⟨cs,h1,h2⟩,h3⟩:=h;refine ⟨⟨cs,SV.kept ho hs hB s cs h1,fun j hj=>?_⟩,SsAt.kept ho hs hB hg (i+1) ss h3⟩;have hc:=h2 j hj;obtain ⟨u,hu⟩:∃ u,cs[j]?=some u:=⟨_,List.getElem?_eq_getElem (by rw [h1.len];exact hj)⟩
  rw [hu] at hc⊢;exact ac ho hc (fun hk=>hs _ hk hg)
end
theorem SsAt.here {w:World} {B:Nat→Prop} {g i:Nat} {l:List St} (hx:l≠[]) (h:SsAt w B g i l):g < w.heap.size:=by
 cases l with
 | nil=>exact absurd rfl hx
 | cons e es=>
  unfold SsAt at h;obtain ⟨⟨cs,h1,h2⟩,_⟩:=h;have hc:=h2 0 (by omega);obtain ⟨u,hu⟩:∃ u,cs[0]?=some u:=⟨_,List.getElem?_eq_getElem (by rw [h1.len];omega)⟩
  rw [hu] at hc;exact World.block_lt_of_cell? _ _ hc
theorem EsV.lt {w:World} {B:Nat→Prop} {v:Value} {xs:List E} (h:EsV w B v xs):EsV w (fun b=>B b∧b < w.heap.size) v xs:=by
 obtain ⟨a,cap,h1,h2,h3⟩:=h;refine ⟨a,cap,h1,h2,?_⟩
 by_cases hx:xs=[]
 ·exact .inl hx
 ·rcases h3 with h3 | ⟨g,h4,h5,h6⟩
  ·exact .inl h3
  ·exact .inr ⟨g,h4,⟨h5,EsAt.here hx h6⟩,EsAt.lt g 0 xs h6⟩
mutual
theorem SV.lt {w:World} {B:Nat→Prop}:∀ (s:St) (cs:List Value),SV w B s cs→SV w (fun b=>B b∧b < w.heap.size) s cs
 | .mk k nm xs n bd els p,cs,h=>by
  unfold SV at h⊢;obtain ⟨va,a1,c1,a2,c2,h1,h2,⟨h3,h4⟩,h5,h6⟩:=h;refine ⟨va,a1,c1,a2,c2,h1,h2.lt,⟨h3,?_⟩,h5,?_⟩
  ·by_cases hx:bd=[]
   ·exact .inl hx
   ·rcases h4 with h4 | ⟨g,e1,e2,e3⟩
    ·exact .inl h4
    ·exact .inr ⟨g,e1,⟨e2,SsAt.here hx e3⟩,SsAt.lt g 0 bd e3⟩
  ·by_cases hx:els=[]
   ·exact .inl hx
   ·rcases h6 with h6 | ⟨g,e1,e2,e3⟩
    ·exact .inl h6
    ·exact .inr ⟨g,e1,⟨e2,SsAt.here hx e3⟩,SsAt.lt g 0 els e3⟩
theorem SsAt.lt {w:World} {B:Nat→Prop} (g:Nat):∀ (i:Nat) (l:List St),SsAt w B g i l→SsAt w (fun b=>B b∧b < w.heap.size) g i l
 | _,[],h=>by unfold SsAt;trivial
 | i,s :: ss,h=>by
  unfold SsAt at h⊢;obtain ⟨⟨cs,h1,h2⟩,h3⟩:=h;exact ⟨⟨cs,SV.lt s cs h1,h2⟩,SsAt.lt g (i+1) ss h3⟩
end
section
variable {w w':World} {B B':Nat→Prop} {v:Value} {l:List St} {s:St} {cs:List Value}
theorem SsV.kept {S:List Nat} (ho:Only S w w') (hs:∀ k∈S,¬ B k) (hB:∀ k,B k→B' k) (h:SsV w B v l):SsV w' B' v l:=by
 obtain ⟨a,cap,h1,h2,h3⟩:=h;refine ⟨a,cap,h1,h2,h3.imp id ?_⟩;rintro ⟨g,h4,h5,h6⟩;exact ⟨g,h4,hB g h5,SsAt.kept ho hs hB h5 0 l h6⟩
theorem SV.quiet (h:SV w B s cs) (ho:Only [] w w'):SV w' B s cs:=SV.kept ho (by simp) (fun _ h=>h) s cs h
theorem SsV.quiet (h:SsV w B v l) (ho:Only [] w w'):SsV w' B v l:=h.kept ho (by simp) (fun _ h=>h)
theorem SsV.nil (w:World) (B:Nat→Prop):SsV w B (.slice none 0 0) []:=⟨none,0,rfl,Nat.le_refl _,.inl rfl⟩
end
theorem aZ {W:World} {g:Nat} {z0 z1 z2 z3 z4 z5 z6:Value} {t:TypeId} (h:W.heap[g]?=some (.cells #[z0,z1,z2,z3,z4,z5,z6] t (0,0))) (v0 v1 v2 v3 v4 v5 v6:Value) :
  (((((((W.setCell ⟨g,0,none⟩ v0).setCell ⟨g,1,none⟩ v1).setCell ⟨g,2,none⟩ v2).setCell ⟨g,3,none⟩ v3).setCell ⟨g,4,none⟩ v4).setCell ⟨g,5,none⟩ v5).setCell ⟨g,6,none⟩ v6).heap[g]?=some (.cells #[v0,v1,v2,v3,v4,v5,v6] t (0,0)):=
 af (i:=6) v6 (af (i:=5) v5 (af (i:=4) v4 (af (i:=3) v3 (af (i:=2) v2 (af (i:=1) v1 (af (i:=0) v0 h))))))
theorem mV (w:World) (g:Nat) (v0 v1 v2 v3 v4 v5 v6:Value) (h:w.heap[g]?=some (.cells #[v0,v1,v2,v3,v4,v5,v6] 113 (0,0))):(loadVar 113 ⟨g,0,none⟩).run Tryz.prog w=.ok (.agg #[v0,v1,v2,v3,v4,v5,v6]) w:=by
 have c0:w.cell? ⟨g,0,none⟩=some v0:=ab 0 h;have c1:w.cell? ⟨g,1,none⟩=some v1:=ab 1 h;have c2:w.cell? ⟨g,2,none⟩=some v2:=ab 2 h;have c3:w.cell? ⟨g,3,none⟩=some v3:=ab 3 h;have c4:w.cell? ⟨g,4,none⟩=some v4:=ab 4 h;have c5:w.cell? ⟨g,5,none⟩=some v5:=ab 5 h;have c6:w.cell? ⟨g,6,none⟩=some v6:=ab 6 h;clear h;simp [go_sem,c0,c1,c2,c3,c4,c5,c6]
def RSt (w:World) (r:Except Nat (St×Nat)) (e:Ending) (w':World):Prop:=
 ∃ (k n p:Int) (s:ByteArray) (a1 a2 a3:Option Addr) (l1 l2 l3 c1 c2 c3:Nat),e=.returned (.tuple #[.agg #[.int .i64 k,.string s,.slice a1 l1 c1,.int .i64 n,.slice a2 l2 c2,.slice a3 l3 c3,.int .i64 p],.int .i64 (zR r)])∧
  (∀ t i,r=.ok (t,i)→SV w' (fun b=>w.heap.size≤b) t [.int .i64 k,.string s,.slice a1 l1 c1,.int .i64 n,.slice a2 l2 c2,.slice a3 l3 c3,.int .i64 p])∧Only [] w w'
theorem dm (tmps:Array Value) (w:World) (g:Nat) (v0 v1 v2 v3 v4 v5 v6 z:Value) (h6:tmps.getD 6 undef=.pointer (some ⟨g,0,none⟩)) (h7:tmps.getD 7 undef=z) (h:w.heap[g]?=some (.cells #[v0,v1,v2,v3,v4,v5,v6] 113 (0,0))) :
  (results Tryz.f89 tmps).run Tryz.prog w=.ok (.tuple #[.agg #[v0,v1,v2,v3,v4,v5,v6],z]) w:=by
 have hl:=mV w g v0 v1 v2 v3 v4 v5 v6 h;have h6':tmps[6]?.getD undef=.pointer (some ⟨g,0,none⟩):=by simpa using h6
 have h7':tmps[7]?.getD undef=z:=by simpa using h7
 simp [results,Tryz.results89,asAddr,h6',h7',hl]
theorem eL (tmps:Array Value) (w:World) (g:Nat) (v0 v1 v2 v3 v4 v5 v6 z:Value) (h6:tmps.getD 6 undef=.pointer (some ⟨g,0,none⟩)) (h7:tmps.getD 7 undef=z) (h:w.heap[g]?=some (.cells #[v0,v1,v2,v3,v4,v5,v6] 113 (0,0))) :
  (results Tryz.f61 tmps).run Tryz.prog w=.ok (.tuple #[.agg #[v0,v1,v2,v3,v4,v5,v6],z]) w:=by
 have hl:=mV w g v0 v1 v2 v3 v4 v5 v6 h;have h6':tmps[6]?.getD undef=.pointer (some ⟨g,0,none⟩):=by simpa using h6
 have h7':tmps[7]?.getD undef=z:=by simpa using h7
 simp [results,Tryz.results61,asAddr,h6',h7',hl]
end Go.Proofs.YtcebchffcmpfeaaGreat
