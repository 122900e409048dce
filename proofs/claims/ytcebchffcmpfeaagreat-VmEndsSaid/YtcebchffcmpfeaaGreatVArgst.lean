/- VmArgs, for every input: it returns true, and its argument reads behind the call as it did: a code that is no code is refused, so is a wrong number of numbers, and a page behind a run is the run's or blank. No condition. -/
import Derived.Test.YtcebchffcmpfeaaGreatSat
import Derived.Test.YtcebchffcmpfeaaGreatZ14at
namespace Go.Proofs.YtcebchffcmpfeaaGreat
set_option linter.unusedVariables false
set_option linter.unusedSimpArgs false
set_option maxRecDepth 100000
set_option maxHeartbeats 16000000
open Go.ChangeShapes Go.WideShapes Go.ChangeAt Go.RowKit Go.Maps
theorem RV.ints {w:World} {v:Value} {l:List Int} (h:RV rZ w v l) (hl:∀ z∈l,n64 z):IntsV w v l:=by
 obtain ⟨a,c,rfl,h0 | ⟨g,o,rfl,hc⟩⟩:=h
 ·subst h0;exact ⟨a,c,rfl,fun i k hi=>by simp at hi⟩
 ·refine ⟨some ⟨g,o,none⟩,c,rfl,fun i k hi=>⟨?_,g,o,rfl,?_⟩⟩
  ·have:=hl k (List.mem_of_getElem? hi);have e1:IntKind.i64.min=-9223372036854775808:=by decide
   have e2:IntKind.i64.max=9223372036854775807:=by decide
   simpa [Lit.wf,e1,e2,n64] using this
  ·have:=hc i k hi 0 (.int .i64 k) rfl;simpa [rZ] using this
theorem cw_fil12 {l:List Int} (h:∀ z∈l,n64 z):CW (iR l 60):=⟨bz l 60,fun z hz=>filC_in h 60 z hz⟩
theorem rQ (c:Cd):∀ (f:Nat) (s:Mc),(rE c f s).1.pg.length=s.pg.length
 | 0,s=>by unfold rE;rfl
 | f+1,s=>by
  have hd:∀ i s,(doM c i s).pg.length=s.pg.length:=by
   intro i s;have h1:∀ k a b,(tY k s.pg a b).length=s.pg.length:=by
    intro k a b;unfold tY;(repeat' split)<;>simp
   have h2:∀ a b,(swpC s.pg a b).length=s.pg.length:=by
    intro a b;unfold swpC;(repeat' split)<;>simp
   unfold doM;simp only [apply_ite Mc.pg,apply_ite List.length,h1,h2,ite_self]
  unfold rE;split
  ·rfl
  ·split
   ·rfl
   ·rename_i i _ _;rw [rQ c f (doM c i (nxM s)),hd];rfl
theorem tU (q:Int) (c:Cd) {pg:List Int} (args:List Int) (hp:pg.length=60) :
  (tB c=err 13∧j6 q c pg args=(0 :: blankP,0,err 13))∨
  (tB c=.nilIface∧(args.length:Int)≠c.params∧j6 q c pg args=(0 :: blankP,0,err 2))∨
  (tB c=.nilIface∧(args.length:Int)=c.params∧j6 q c pg args=(0 :: blankP,0,err 12))∨
  (tB c=.nilIface∧(args.length:Int)=c.params∧∃ d v,d.length=60∧j6 q c pg args=(q :: d,v,.nilIface)):=by
 unfold tB j6
 by_cases hg:em c=false
 ·rw [if_pos hg,if_neg (by simp [hg])];exact .inl ⟨rfl,rfl⟩
 ·rw [if_neg hg,if_pos (by simpa using hg)]
  by_cases ha:(args.length:Int)=c.params
  ·rw [if_neg (by simpa using ha)]
   by_cases hr:(oY c pg args).2=true
   ·rw [if_pos hr];exact .inr (.inr (.inr ⟨rfl,ha,_,_,by unfold oY;rw [rQ];exact hp,rfl⟩))
   ·rw [if_neg hr];exact .inr (.inr (.inl ⟨rfl,ha,rfl⟩))
  ·rw [if_pos ha];exact .inr (.inl ⟨rfl,ha,rfl⟩)
theorem xU (n:Int) (w:World):(binOp .eql 36 (err n) .nilIface).run Tryz.prog w=.ok (.bool false) w:=by kernel_rfl
theorem tV (c:Cd) (l m:List Int) (xa:Option Addr) (xb:Nat) (xc:Option Addr) (xd:Nat) (xe:Option Addr) (xf:Nat) (xg:Option Addr) (xh:Nat) (w:World) (ha:RV rI w (.slice xa c.ins.length xb) c.ins) (hb:c.ins.length≤xb) (hc:∀ x∈c.ins,n64 x.1∧n64 x.2)
    (hd:RV rL w (.slice xc c.loops.length xd) c.loops) (he:c.loops.length≤xd) (hf:RV rZ w (.slice xe l.length xf) l) (hg:∀ z∈l,n64 z) (hh:l.length≤xf) (hj:xf≤maxLen) (hk:RV rZ w (.slice xg m.length xh) m) (hl:∀ z∈m,n64 z) (hm:m.length≤xh) (hn:xh≤maxLen) (ho:n64 c.params) (hp:n64 c.locals) :
    Calls Tryz.prog 5 #[xT c xa xb xc xd xe l.length xf xg m.length xh] w fun e w'=>e=.returned (.bool true)∧Only [] w w':=by
  unfold xT;obtain ⟨n1,hn1⟩:∃ n,n=c.ins.length:=⟨_,rfl⟩
  obtain ⟨n2,hn2⟩:∃ n,n=c.loops.length:=⟨_,rfl⟩
  obtain ⟨n3,hn3⟩:∃ n,n=l.length:=⟨_,rfl⟩
  obtain ⟨n4,hn4⟩:∃ n,n=m.length:=⟨_,rfl⟩
  obtain ⟨P,hP⟩:∃ n,n=c.params:=⟨_,rfl⟩
  obtain ⟨L,hL⟩:∃ n,n=c.locals:=⟨_,rfl⟩
  rw [← hn3] at hf;rw [← hn4] at hk;rw [← hn1] at ha;rw [← hn2] at hd;have HF:=Hd (And.intro (hf.ints hg) (cw_fil12 hg));have HM:=Hd hk;have HA:=Hd ha;have HDD:=Hd hd;have HC:=Hd hc;have HL:=Hd hl;have hm4:n4≤9223372036854775807:=by
    have:maxLen=9223372036854775807:=by rfl
    omega
  have hm3:n3≤9223372036854775807:=by
    have:maxLen=9223372036854775807:=by rfl
    omega
  have HX:=Hd (show n1≤xb∧n2≤xd∧n4≤9223372036854775807∧n3≤9223372036854775807 from ⟨by omega,by omega,hm4,hm3⟩);rw [← hn1,← hn2,← hn3,← hn4,← hP,← hL];have HN:=Hd (show n1=c.ins.length∧n2=c.loops.length∧n3=l.length∧n4=m.length∧P=c.params∧L=c.locals from ⟨hn1,hn2,hn3,hn4,hP,hL⟩);clear hn1 hn2 hn3 hn4 hP hL ha hb hc hd he hf hg hh hj hk hl hm hn ho hp hm4 hm3
  go_enter Tryz.func5,Tryz.ntmps5
  go_upto_region 1 with (fail)
  obtain ⟨w1,q9,o1,hB,-⟩:=nb w (.cells #[.int .i64 P,.int .i64 L,.slice xa n1 xb,.slice xc n2 xd,.slice xe n3 xf,.slice xg n4 xh] 28);rw [← q9];clear q9;obtain ⟨gB,hgB⟩:∃ g,g=w.heap.size:=⟨_,rfl⟩
  rw [← hgB] at hB⊢;have HB:=Hd hB;have HO:=Hd o1;clear hB o1 hgB;go_wp2_with fail
  refine (qC w1).mono ?_;rintro e w2 ⟨rfl,o2⟩;replace HB:=Hd (o2.heap HB.out (by simp));replace HO:=Hd (HO.out.trans o2 (by simp));clear o2;have k2:w2.cell? ⟨gB,2,none⟩=some (.slice xa n1 xb):=ab 2 HB.out;have k3:w2.cell? ⟨gB,3,none⟩=some (.slice xc n2 xd):=ab 3 HB.out;have k4:w2.cell? ⟨gB,4,none⟩=some (.slice xe n3 xf):=ab 4 HB.out
  by_cases hb1:(5000:Int) < n1
  · go_wp2_with fail
    go_ret;exact ⟨rfl,HO.out⟩
  by_cases hb2:(100:Int) < n2
  · go_wp2_with fail
    go_ret;exact ⟨rfl,HO.out⟩
  go_wp2_with fail
  refine (qG _ l _ (HF.out.1.kept HO.out (fun _ _ _ _ _=>by simp)) (by have:=HN.out.2.2.1;have:=HX.out.2.2.2;omega)).mono ?_;rintro e w3 ⟨rfl,o3⟩;replace HB:=Hd (o3.heap HB.out (by simp));replace HO:=Hd (HO.out.trans o3 (by simp));clear o3 k2 k3 k4;have HCV:=Hd (show CV w c xa n1 xb xc n2 xd from ⟨HA.out,HDD.out,HN.out.1,HN.out.2.1,by omega,by omega,HX.out.1,HX.out.2.1⟩);have h60:=HF.out.2.len;have HW:=Hd HF.out.2;generalize iR l 60=F at HW h60⊢;have T1:=trivial
  go_upto_region 6 with (first
    | (clear T1
       refine aJ rfl rfl ?_;intro w4 g3 hb3 hg3 ho3;have HB3:=Hd hb3;have HG3:=Hd (Nat.le_trans HO.out.size hg3);have HNE:=Hd (show gB≠g3 by have:=ak HB.out;omega);replace HB:=Hd (ho3.heap HB.out (by simp));replace HO:=Hd (HO.out.trans ho3 (by simp));clear hb3 hg3 ho3)
    | (refine aw rfl _ _ rfl g3 (5 :: F) (by rfl) (by rfl) (by rw [List.length_cons,h60]) _ HB3.out (by rfl) ?_;intro w5 hb ho;have HB5:=Hd hb;replace HB:=Hd (ho.heap HB.out (by simpa using HNE.out));replace HO:=Hd (HO.out.trans ho (by simp;exact HG3.out));clear hb ho HB3))
  have k0:w5.cell? ⟨gB,0,none⟩=some (.int .i64 P):=ab 0 HB.out;have k1:w5.cell? ⟨gB,1,none⟩=some (.int .i64 L):=ab 1 HB.out;have k2:w5.cell? ⟨gB,2,none⟩=some (.slice xa n1 xb):=ab 2 HB.out;have k3:w5.cell? ⟨gB,3,none⟩=some (.slice xc n2 xd):=ab 3 HB.out;have k5:w5.cell? ⟨gB,5,none⟩=some (.slice xg n4 xh):=ab 5 HB.out;go_wp2_with (refine aF rfl _ rfl g3 (by rfl) (5 :: F) HB5.out (by rw [List.length_cons,h60]) ?_)
  have KV:=rJ (q:=5) (pg:=F) (args:=m) (HCV.out.quiet HO.out) (fun i hi=>(HC.out i hi).2) HW.out (HM.out.quiet HO.out) HL.out HX.out.2.2.1;have hNP:=HN.out.2.2.2.2;rw [← hNP.1,← hNP.2] at KV;clear hNP;refine KV.mono ?_;rintro e w6 ⟨rfl,o6⟩;have HB6:=Hd (o6.heap HB.out (by simp));replace HO:=Hd (HO.out.trans o6 (by simp));clear KV o6 k0 k1 k2 k3 k5 HB;have hm60:=h60;have HGO:=Hd (tU 5 c m h60);have h61:(j6 5 c F m).1.length=61:=by
    rcases HGO.out with ⟨-,e⟩ | ⟨-,-,e⟩ | ⟨-,-,e⟩ | ⟨-,-,d,v,hd,e⟩
    · rw [e];rfl
    · rw [e];rfl
    · rw [e];rfl
    · rw [e,List.length_cons,hd]
  have HKC:=Hd (fun W (ho:Only [] w W)=>fa (HCV.out.quiet ho));rw [← HN.out.2.2.2.2.1,← HN.out.2.2.2.2.2] at HKC;have HN4:=Hd HN.out.2.2.2.1;have HNP:=Hd HN.out.2.2.2.2.1;generalize j6 5 c F m=R at HGO h61⊢;obtain ⟨r1,r2,r3⟩:=R;dsimp only at h61⊢;clear HB5 HG3 HNE HW HCV h60 hm60 HF HM HA HDD HC HL HX HN;have T1:=trivial
  go_upto_region 7 with (first
    | (clear T1
       refine aJ rfl rfl ?_;intro w7 g4 hb3 hg3 ho3;have HB3:=Hd hb3;have HG3:=Hd (Nat.le_trans HO.out.size hg3);have HNE:=Hd (show gB≠g4 by have:=ak HB6.out;omega);replace HB6:=Hd (ho3.heap HB6.out (by simp));replace HO:=Hd (HO.out.trans ho3 (by simp));clear hb3 hg3 ho3)
    | (refine aw rfl _ _ rfl g4 r1 (by rfl) (by rfl) h61 _ HB3.out (by rfl) ?_;intro w8 hb ho;have HB8:=Hd hb;replace HB6:=Hd (ho.heap HB6.out (by simpa using HNE.out));replace HO:=Hd (HO.out.trans ho (by simp;exact HG3.out));clear hb ho HB3))
  have k0:w8.cell? ⟨gB,0,none⟩=some (.int .i64 P):=ab 0 HB6.out;have k1:w8.cell? ⟨gB,1,none⟩=some (.int .i64 L):=ab 1 HB6.out;have k2:w8.cell? ⟨gB,2,none⟩=some (.slice xa n1 xb):=ab 2 HB6.out;have k3:w8.cell? ⟨gB,3,none⟩=some (.slice xc n2 xd):=ab 3 HB6.out;go_wp2_with fail
  refine (HKC.out w8 HO.out).mono ?_;rintro e w9 ⟨rfl,o9⟩;replace HB6:=Hd (o9.heap HB6.out (by simp));replace HB8:=Hd (HB8.out.kept o9 (by simp));replace HO:=Hd (HO.out.trans o9 (by simp));clear o9 HKC k0 k1 k2 k3 HG3 HNE;have k0:w9.cell? ⟨gB,0,none⟩=some (.int .i64 P):=ab 0 HB6.out;have k5:w9.cell? ⟨gB,5,none⟩=some (.slice xg n4 xh):=ab 5 HB6.out;clear HB6;have e1:=rN;have e2:=rO;have e3:=jc;have e4:=jb;have e5:=xU;have H61:=Hd (show (0 :: blankP).length=61 by rfl);have D2:=Hd (show (decide ((0:Int)=0) && decide (blankP=blankP))=true by simp);rcases HGO.out with ⟨h1,e⟩ | ⟨h1,h2,e⟩ | ⟨h1,h2,e⟩ | ⟨h1,h2,d,v,hd,e⟩
  · obtain ⟨rfl,rfl,rfl⟩:r1=0 :: blankP∧r2=0∧r3=err 13:=by simpa [Prod.mk.injEq] using e
    rw [h1];clear e h1 HGO h61 HN4 HNP;go_simp
    repeat (first
      | (guard_target =~ Oper.wp _ (Oper.mk (some 43) _ _ _ _ _) _ _ _ _;refine eH (.tmp 4) rfl g4 (by rfl) (0 :: blankP) HB8.out H61.out ?_;simp only [Act.put,List.setIfInBounds_toArray,List.set_cons_zero,List.set_cons_succ])
      | (guard_target =~ Oper.wp _ (Oper.mk (some 44) _ _ _ _ _) _ _ _ _;refine d7 [] rfl (0 :: blankP) cf ?_;simp only [Act.put,List.setIfInBounds_toArray,List.set_cons_zero,List.set_cons_succ])
      | (guard_target =~ Oper.wp _ (Oper.mk (some 45) _ _ _ _ _) _ _ _ _;refine fK (.tmp 43) (.tmp 44) rfl 0 0 blankP blankP (by rfl) (by rfl) (by rfl) (by rfl) ?_;rw [D2.out];simp only [Act.put,List.setIfInBounds_toArray,List.set_cons_zero,List.set_cons_succ])
      | go_values | go_skip | go_guarded | go_step | go_upon)
    go_ret;exact ⟨rfl,HO.out⟩
  · obtain ⟨rfl,rfl,rfl⟩:r1=0 :: blankP∧r2=0∧r3=err 2:=by simpa [Prod.mk.injEq] using e
    rw [h1];have h3:¬ ((n4:Int)=P):=by rw [HN4.out,HNP.out];exact h2
    clear e h1 h2 HGO h61 HN4 HNP;go_simp
    repeat (first
      | (guard_target =~ Oper.wp _ (Oper.mk (some 63) _ _ _ _ _) _ _ _ _;refine eH (.tmp 4) rfl g4 (by rfl) (0 :: blankP) HB8.out H61.out ?_;simp only [Act.put,List.setIfInBounds_toArray,List.set_cons_zero,List.set_cons_succ])
      | (guard_target =~ Oper.wp _ (Oper.mk (some 64) _ _ _ _ _) _ _ _ _;refine d7 [] rfl (0 :: blankP) cf ?_;simp only [Act.put,List.setIfInBounds_toArray,List.set_cons_zero,List.set_cons_succ])
      | (guard_target =~ Oper.wp _ (Oper.mk (some 65) _ _ _ _ _) _ _ _ _;refine fK (.tmp 63) (.tmp 64) rfl 0 0 blankP blankP (by rfl) (by rfl) (by rfl) (by rfl) ?_;rw [D2.out];simp only [Act.put,List.setIfInBounds_toArray,List.set_cons_zero,List.set_cons_succ])
      | go_values | go_skip | go_guarded | go_step | go_upon)
    go_ret;exact ⟨rfl,HO.out⟩
  · obtain ⟨rfl,rfl,rfl⟩:r1=0 :: blankP∧r2=0∧r3=err 12:=by simpa [Prod.mk.injEq] using e
    rw [h1];obtain rfl:P=(n4:Int):=by rw [HN4.out,HNP.out];exact h2.symm
    clear e h1 h2 HGO h61 HN4 HNP;go_simp
    repeat (first
      | (guard_target =~ Oper.wp _ (Oper.mk (some 83) _ _ _ _ _) _ _ _ _;refine eH (.tmp 4) rfl g4 (by rfl) (0 :: blankP) HB8.out H61.out ?_;simp only [Act.put,List.setIfInBounds_toArray,List.set_cons_zero,List.set_cons_succ])
      | (guard_target =~ Oper.wp _ (Oper.mk (some 84) _ _ _ _ _) _ _ _ _;refine d7 [] rfl (0 :: blankP) cf ?_;simp only [Act.put,List.setIfInBounds_toArray,List.set_cons_zero,List.set_cons_succ])
      | (guard_target =~ Oper.wp _ (Oper.mk (some 85) _ _ _ _ _) _ _ _ _;refine fK (.tmp 83) (.tmp 84) rfl 0 0 blankP blankP (by rfl) (by rfl) (by rfl) (by rfl) ?_;rw [D2.out];simp only [Act.put,List.setIfInBounds_toArray,List.set_cons_zero,List.set_cons_succ])
      | go_values | go_skip | go_guarded | go_step | go_upon)
    go_ret;exact ⟨rfl,HO.out⟩
  · obtain ⟨rfl,rfl,rfl⟩:r1=5 :: d∧r2=v∧r3=.nilIface:=by simpa [Prod.mk.injEq] using e
    rw [h1];obtain rfl:P=(n4:Int):=by rw [HN4.out,HNP.out];exact h2.symm
    have k7:w9.cell? ⟨g4,0,none⟩=some (.int .i64 5):=HB8.out.cell (by rfl);clear e h1 h2 HGO h61 HN4 HNP;(go_wp2_with fail);go_ret;exact ⟨rfl,HO.out⟩
theorem oU (os:Os) (started:os.Started) (H:Type) (enc:TypeId×Value→H) :
  ReturnsInHanded {} Tryz.checked os 5 .any (Rows.vmArgsSpec.pre6 enc Tryz.prog Tryz.f5 Rows.vmArgsRow.domain false) (Rows.vmArgsSpec.post enc Tryz.prog Tryz.f5 false true false false):=by
 refine returnsInHanded_of_change (C:=Tryz.checked) law_own started (by kernel_rfl) Tryz.func5
  (ChangeSpec.witness6 (enc:=enc) (C:=Tryz.checked) false ⟨#[],#[.agg #[.int .i64 0,.int .i64 0,.slice none 0 0,.slice none 0 0,.slice none 0 0,.slice none 0 0]],[]⟩ 8 (by kernel_rfl) (by kernel_rfl) (by kernel_rfl) (by kernel_rfl)) ?_
 intro W base args ds gs before hval0 hW hcnd _;have hval:∀ (j:Nat) t v,Tryz.f5.params[j]?=some t→args[j]?=some v→Value.okWide Tryz.prog W .any base t v:=hval0;have hW':=hW;obtain ⟨p,q,hA0,hV,rfl,hfz,hnd⟩:=hW;have hA:DataW.TrodAll enc Tryz.prog W 0 (fun _=>true) true Tryz.f5.params.toList args.toList ds p:=hA0;rw [Tryz.params5] at hA hval;obtain ⟨v0,vs0,d0,ds0,p0,q0,hargs,rfl,rfl,h0,r0⟩:=trodAll_cons hA;obtain ⟨rfl,rfl,rfl⟩:=trodAll_nil r0;obtain rfl:args=#[v0]:=by cases args;simp_all
 obtain ⟨rfl,rfl⟩:=trodVars_none hV;have h0':=h0;obtain ⟨c0,l0,m0,xa0,xb0,xc0,xd0,xe0,xf0,xg0,xh0,rfl,ha0,hb0,hc0,hd0,he0,hf0,hg0,hh0,hj0,hk0,hl0,hm0,hn0,ho0,hp0⟩:=tT (hval 0 28 v0 rfl rfl) h0;have hlt0:∀ x∈p0,x.block < W.heap.size:=fun x hx=>hW'.lt x (by simp [hx]);clear hA0 hval0;refine (tV c0 l0 m0 xa0 xb0 xc0 xd0 xe0 xf0 xg0 xh0  W ha0 hb0 hc0 hd0 he0 hf0 hg0 hh0 hj0 hk0 hl0 hm0 hn0 ho0 hp0).mono fun e W' ⟨he,hg⟩=>?_;subst he;exact ⟨_,rfl,rV (pa:=(p0++[])) (pv:=[]) hW' hg (fun _ _ _=>(trodAll_cons_mk (shut_bool Tryz.underlying4 _) trodAll_mk0)) (fun sp hsp=>(trodAll_cons_mk (ud (by kernel_rfl) (of_decide_eq_true (by kernel_rfl)) h0' hg hlt0 (fun x hx=>hsp x (by simp [hx]))) trodAll_mk0)) (fun _ _=>rfl) (by simp) (ok_one (by kernel_rfl) rfl (okWide_bool_mk Tryz.underlying4 _))⟩
theorem tW:Rows.vmArgsRow.holds Tryz.pinned (OpenSpec.ofChange Rows.vmArgsSpec):=
 OpenClaim.holds_of_wide 5 Tryz.f5 rfl rfl rfl rfl rfl rfl rfl ⟨rfl,rfl,rfl,rfl,rfl⟩ rfl rfl rfl rfl rfl (by kernel_rfl) Tryz.func5 (by kernel_rfl)
  (of_decide_eq_true (by kernel_rfl)) (by unfold Func.isWrapper;first | (rw [if_pos (by decide +kernel)];kernel_rfl) | (rw [if_neg (by decide +kernel)];exact ⟨rfl,rfl⟩))
  (fun os started H enc _=>oU os started H enc)
theorem vargs_holds:Rows.VmArgsSaid:=
 tW
#print axioms vargs_holds
end Go.Proofs.YtcebchffcmpfeaaGreat
