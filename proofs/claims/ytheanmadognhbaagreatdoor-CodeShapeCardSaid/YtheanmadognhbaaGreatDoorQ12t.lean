import Derived.Test.YtheanmadognhbaaGreatDoorQ11t
namespace Go.Proofs.YtheanmadognhbaaGreatDoor
set_option linter.unusedVariables false
set_option linter.unusedSimpArgs false
set_option maxRecDepth 100000
set_option maxHeartbeats 16000000
open Go.RowKit Go.Maps
structure BI (w wr:World) (lo g:Nat) (v vj:Value) (rj:RS) (ve:Value) (env:Env):Prop where
 k:RK wr lo g vj rj
 t:RT w wr g v vj
 e:OKn wr ve env
 o:∀ q,ve.ownBlock=some q→w.heap.size≤q
section
variable {w wr w2:World} {lo g:Nat} {v vj v2:Value} {rj r2:RS} {ve ve2:Value} {env env2:Env} {B:Nat→Prop}
theorem BI.quiet (h:BI w wr lo g v vj rj ve env) (ho:Only [] wr w2):BI w w2 lo g v vj rj ve env:=⟨h.k.quiet ho,h.t.quiet ho,h.e.kept ho (by simp),h.o⟩
theorem BI.state (h:BI w wr lo g v vj rj ve env) (hk:RK w2 lo g v2 r2) (ht:RT wr w2 g vj v2):BI w w2 lo g v v2 r2 ve env:=⟨hk,h.t.trans ht,h.e.rt h.k ht,h.o⟩
theorem BI.grow (h:BI w wr lo g v vj rj ve env) (he:OKn w2 ve2 env2) (hx:Ext wr ve w2 ve2):BI w w2 lo g v vj rj ve2 env2:=
 ⟨h.k.ext h.e hx,h.t.own hx.only (fun q hq=>h.o q (by simpa using hq)),he,fun q hq=>(hx.src q hq).elim (h.o q) (fun e=>Nat.le_trans h.t.only.size e)⟩
theorem kept_ss {l:List St} {x:Value} (h:SsV wr B x l) (hr:RK wr lo g vj rj) (hB:∀ k,B k→k < lo) (ht:RT wr w2 g vj v2):SsV w2 B x l:=h.kept ht.only (fun q hq hb=>hr.below q hq (hB q hb)) (fun _ h=>h)
theorem kept_es {l:List E} {x:Value} (h:EsV wr B x l) (hr:RK wr lo g vj rj) (hB:∀ k,B k→k < lo) (ht:RT wr w2 g vj v2):EsV w2 B x l:=h.kept ht.only (fun q hq hb=>hr.below q hq (hB q hb)) (fun _ h=>h)
theorem BI.kept_ss {l:List St} {x:Value} (b:BI w wr lo g v vj rj ve env) (hlo:lo≤w.heap.size) (hB:∀ k,B k→k < lo) (h:SsV wr B x l) (hx:Ext wr ve w2 ve2):SsV w2 B x l:=
 h.kept hx.only (fun q hq hb=>by have:=b.o q (by simpa using hq);have:=hB q hb;omega) (fun _ h=>h)
theorem BI.kept_es {l:List E} {x:Value} (b:BI w wr lo g v vj rj ve env) (hlo:lo≤w.heap.size) (hB:∀ k,B k→k < lo) (h:EsV wr B x l) (hx:Ext wr ve w2 ve2):EsV w2 B x l:=
 h.kept hx.only (fun q hq hb=>by have:=b.o q (by simpa using hq);have:=hB q hb;omega) (fun _ h=>h)
theorem BI.kept_box {k:Nat} {cs:Array Value} {t:TypeId} {fr:Nat×Nat} (b:BI w wr lo g v vj rj ve env) (hx:Ext wr ve w2 ve2) (hk:wr.heap[k]?=some (.cells cs t fr)) (ht:t≠123):w2.heap[k]?=some (.cells cs t fr):=
 hx.only.heap hk (fun e=>ht (b.e.ty (by simpa using e) hk))
end
theorem qg {r:RS} {env:Env} {xs:List St} {j:Nat} {e:St} (hj:xs[j]?=some e):ay r (xs.drop j) env=ay (bY r e env).1 (xs.drop (j+1)) (bY r e env).2:=by
 obtain ⟨hlt,rfl⟩:=List.getElem?_eq_some_iff.1 hj;rw [List.drop_eq_getElem_cons hlt]
 conv=>lhs;unfold ay
theorem qh {xs:List St} {j:Nat} {e:St} (hj:xs[j]?=some e):ah (xs.drop j)=aQ e+ah (xs.drop (j+1)):=by
 obtain ⟨hlt,rfl⟩:=List.getElem?_eq_some_iff.1 hj;rw [List.drop_eq_getElem_cons hlt,bH]
def BlkRes (w:World) (lo g:Nat) (v:Value) (x:RS×Env) (en:Ending) (w':World):Prop:=∃ ve' v',en=.returned ve'∧BI w w' lo g v v' x.1 ve' x.2
def CBlkP (N:Nat):Prop:=∀ (xs:List St),ah xs≤N→∀ (w:World) (lo g:Nat) (v:Value) (r:RS) (vs:Value) (B:Nat→Prop) (env:Env) (ve:Value),RK w lo g v r→wB xs→SsV w B vs xs→(∀ k,B k→k < lo)→OKn w ve env→env.length+ah xs≤1000000→
 Calls Tryz.prog 61 #[.pointer (some ⟨g,0,none⟩),vs,ve] w (BlkRes w lo g v (ay r xs env))
theorem qi (N:Nat) (hNN:N≤1000000) (IS:∀ M,M < N→CBlkP M):CBlkP N:=by
 intro xs hN w lo g v r vs B env ve hr hw hv hB hve hel;obtain ⟨a,cap,rfl,-⟩:=id hv;obtain ⟨ea,ec,rfl⟩:=hve.shape;obtain ⟨n,hn⟩:∃ n,n=xs.length:=⟨_,rfl⟩
 obtain ⟨m,hm⟩:∃ m,m=env.length:=⟨_,rfl⟩
 have hlen:=bg xs;rw [← hn] at hlen hv⊢;rw [← hm] at hve⊢;obtain ⟨X,hX⟩:∃ X,X=ay r xs env:=⟨_,rfl⟩
 rw [← hX];have HX:=Hd hX;have HK:=Hd hr;have HW:=Hd hw;have HV:=Hd hv;have HB:=Hd hB;have HE:=Hd hve;have HN:=Hd hn;have HM:=Hd hm;have HEL:=Hd hel;have hlo:lo≤w.heap.size:=Nat.le_of_lt (Nat.lt_of_le_of_lt hr.lo_le hr.g_lt);have HLO:=Hd hlo;have hnb:n≤1000000:=by omega
 have hmb:m≤1000000:=by omega
 clear hX hr hw hv hB hve hn hm hel hlo
 go_enter Tryz.func61,Tryz.ntmps61
 go_upto_region 1 with (fail)
 go_wp2_with (refine ip rfl (.tmp 10) (.tmp 11) rfl (.slice (some ⟨w.heap.size,0,none⟩) 0 0) (.slice ea m ec) [] env (by rfl) (OKn.empty w) (by rfl) (HE.out.kept ((Only.refl [] w).alloc (.cells #[] 123)) (by simp)) (by rw [← HM.out];simp;omega) ?_;intro a3 c3 w3 h3 x3;have H3:=Hd (And.intro h3 x3);clear h3 x3)
 obtain ⟨h3,x3⟩:=H3.out;have oE:Only [] w (w.alloc (.cells #[] 123)):=(Only.refl [] w).alloc _;have sE:(w.alloc (.cells #[] 123)).heap.size=w.heap.size+1:=Array.size_push _
 have o3:Only [] w w3:=oE.trans x3.only (fun q hq=>.inr (by
  have:=hq;simp [Value.ownBlock] at this
  omega))
 have hbi:BI w w3 lo g v v r (.slice a3 (0+m) c3) env:=⟨HK.out.quiet o3,RT.of_quiet o3 g v,by simpa [← HM.out] using h3,fun q hq=>by
  rcases x3.src q (by simpa [← HM.out] using hq) with e | e
  ·have:=e;simp [Value.ownBlock] at this;omega
  ·omega⟩
 have HBI:=Hd hbi;have HVo:=Hd (HV.out.quiet o3);clear h3 x3 H3 oE sE o3 hbi
 go_loopw [2,7] (fun ev ix wr=>∃ (j:Nat) (vj:Value) (rj:RS) (ej:Env),j≤n∧ix=.int .i64 (j:Int)∧Hid (BI w wr lo g v vj rj ev ej)∧Hid (X=ay rj (xs.drop j) ej)∧Hid (SsV wr B (.slice a n cap) xs)∧ej.length+ah (xs.drop j)≤1000000) (fun _ ix _=>n - (intOf ix).toNat)
 case atStart=>exact ⟨0,v,r,env,Nat.zero_le _,rfl,by first | exact HBI | (exact Hd (by simpa using HBI.out)) | (exact Hd (by simpa [← HM.out] using HBI.out)),Hd (by rw [HX.out,List.drop_zero]),HVo,by rw [List.drop_zero];exact HEL.out⟩
 case round=>
  obtain ⟨j,vj,rj,ej,hjn,rfl,HI,HXj,HVj,hejl⟩:=hrel;obtain ⟨ua,uc,rfl⟩:=HI.out.e.shape
  by_cases hlt:j < n
  ·have hlt':(j:Int) < (n:Int):=by omega
   have j0:(0:Int)≤(j:Int):=by omega
   obtain ⟨-,gr,k,nm,ys,nn,bd,els,p,a0,c0,a1,c1,a2,c2,rfl,he,x0,x1,x2,x3,x4,x5,x6,hv0,hv1,hv2⟩:=HVj.out.elem hlt;have hT1:=bn he;have hdrop:=qh he;rw [hdrop] at hejl;rw [b8] at hT1 hejl;have hwe:=k8 HW.out he;unfold wS at hwe;obtain ⟨hks,-,hwx,hwb,hwel⟩:=hwe;have hXj:=HXj.out;rw [qg he] at hXj;obtain ⟨XR,hXR⟩:∃ XR,XR=bY rj (.mk k nm ys nn bd els p) ej:=⟨_,rfl⟩
   rw [← hXR] at hXj;unfold bY at hXR;obtain ⟨L0,hL0⟩:∃ L,L=ys.length:=⟨_,rfl⟩
   obtain ⟨L1,hL1⟩:∃ L,L=bd.length:=⟨_,rfl⟩
   obtain ⟨L2,hL2⟩:∃ L,L=els.length:=⟨_,rfl⟩
   obtain ⟨sn,hsn⟩:∃ sn,sn=ai nm:=⟨_,rfl⟩
   rw [← hL0] at x2 hv0 hks;rw [← hL1] at x4 hv1;rw [← hL2] at x5 hv2;rw [← hsn] at x1;have HXJ:=Hd hXj;have HXR:=Hd hXR;have HSN:=Hd hsn;have HL0:=Hd hL0;have HWX:=Hd hwx;have HWB:=Hd hwb;have HWE:=Hd hwel;have HV0:=Hd hv0;have HV1:=Hd hv1;have HV2:=Hd hv2;have HKS:=Hd hks;have hsz0:ak ys≤1000000:=by omega
   have hsz1:ah bd < N:=by omega
   have hsz2:ah els < N:=by omega
   have hej1:ej.length+1+ah bd≤1000000:=by omega
   have hej2:ej.length+1+ah els≤1000000:=by omega
   have hej3:ej.length+1+ah (xs.drop (j+1))≤1000000:=by omega
   clear he hT1 hdrop hejl hXj hXR hL0 hL1 hL2 hsn hv0 hv1 hv2 hks hwx hwb hwel HXj;(go_upto_region 6 with (fail));obtain ⟨w1,q9,oA,hb,-⟩:=nb wr (.cells #[.int .i64 k,.string sn,.slice a0 L0 c0,.int .i64 nn,.slice a1 L1 c1,.slice a2 L2 c2,.int .i64 p] 112);rw [← q9];clear q9;obtain ⟨gb,hgb⟩:∃ gb,gb=wr.heap.size:=⟨_,rfl⟩
   rw [← hgb] at hb⊢;replace HI:=Hd (HI.out.quiet oA);replace HVj:=Hd (HVj.out.quiet oA);replace HV0:=Hd (HV0.out.quiet oA);replace HV1:=Hd (HV1.out.quiet oA);replace HV2:=Hd (HV2.out.quiet oA);have HBX:=Hd hb;have y0:w1.cell? ⟨gb,0,none⟩=some (.int .i64 k):=ab 0 hb;clear oA hb hgb x0 x1 x2 x3 x4 x5 x6
   by_cases h1:k=1
   ·subst h1;have hL:L0=1:=by rcases HKS.out with h | h | h<;>omega
    subst hL;obtain ⟨-,gq,k',nn',nm',zs,p',a',c',haq,hq0,z0,z1,z2,z3,z4,hv'⟩:=HV0.out.elem (j:=0) (by omega);cases haq;simp only [Nat.zero_mul,Nat.zero_add,Nat.one_mul,Nat.reduceMul,Nat.reduceAdd] at z0 z1 z2 z3 z4;have hwz:=fA HWX.out hq0;have hsq:=bu hq0;obtain ⟨e',hee⟩:∃ e',e'=E.mk k' nn' nm' zs p':=⟨_,rfl⟩
    obtain ⟨sn',hsn'⟩:∃ s,s=ai nm':=⟨_,rfl⟩
    obtain ⟨L,hL⟩:∃ L,L=zs.length:=⟨_,rfl⟩
    have hev:EV w1 B e' [.int .i64 k',.int .i64 nn',.string sn',.slice a' L c',.int .i64 p']:=by rw [hee,hsn',hL];exact EV.mk' hv'
    rw [← hee] at hsq hq0;rw [← hsn'] at z2;rw [← hL] at z3;have hys:ys=[e']:=by
     have hl:=HL0.out
     match ys,hl,hq0 with
     | [y],_,hq0=>simpa using hq0
    have hxr:=HXR.out;rw [if_pos rfl,hys] at hxr;dsimp only at hxr;obtain ⟨t,ht⟩:∃ t,t=(aR rj e' ej).1:=⟨_,rfl⟩
    obtain ⟨r2,hr2⟩:∃ r2,r2=(aR rj e' ej).2:=⟨_,rfl⟩
    have K1:=om 1000000 (Nat.le_refl _) e' (by omega) w1 lo g vj rj _ B ej _ HI.out.k hev HB.out HI.out.e (by omega);rw [← ht,← hr2] at K1 hxr;have HXR2:=Hd hxr;have y2:w1.cell? ⟨gb,2,none⟩=some (.slice (some ⟨gq,0,none⟩) 1 c0):=ab 2 HBX.out;clear hwz hsq hee hsn' hL hev hys hxr ht hr2 hq0 hv' HXR;(go_wp2_with fail);refine K1.mono ?_;rintro en w5 ⟨rfl,v5,hk5,ht5⟩;have hbxN:=ht5.heap HI.out.k HBX.out (by decide) (by decide);replace HVj:=Hd (kept_ss HVj.out HI.out.k HB.out ht5);replace HV0:=Hd (kept_es HV0.out HI.out.k HB.out ht5);replace HV1:=Hd (kept_ss HV1.out HI.out.k HB.out ht5);replace HV2:=Hd (kept_ss HV2.out HI.out.k HB.out ht5);replace HBX:=Hd hbxN;replace HI:=Hd (HI.out.state hk5 ht5);clear hbxN hk5 ht5;clear K1 y0 y2 z0 z1 z2 z3 z4;have y1:w5.cell? ⟨gb,1,none⟩=some (.string sn):=ab 1 HBX.out;have y6:w5.cell? ⟨gb,6,none⟩=some (.int .i64 p):=ab 6 HBX.out;have K2:=eS HI.out.k nm p;rw [← HSN.out] at K2;(go_wp2_with fail);refine K2.mono ?_;rintro en w6 ⟨rfl,v6,hk6,ht6⟩;have hbxN:=ht6.heap HI.out.k HBX.out (by decide) (by decide);replace HVj:=Hd (kept_ss HVj.out HI.out.k HB.out ht6);replace HV0:=Hd (kept_es HV0.out HI.out.k HB.out ht6);replace HV1:=Hd (kept_ss HV1.out HI.out.k HB.out ht6);replace HV2:=Hd (kept_ss HV2.out HI.out.k HB.out ht6);replace HBX:=Hd hbxN;replace HI:=Hd (HI.out.state hk6 ht6);clear hbxN hk6 ht6;clear K2 y1 y6;have y1:w6.cell? ⟨gb,1,none⟩=some (.string sn):=ab 1 HBX.out;have hO6:Only [] w6 (w6.alloc (.cells #[.string sn,.int .i64 t] 123)):=(Only.refl [] w6).alloc _;have hN6:=ag w6 (.cells #[.string sn,.int .i64 t] 123);have HO6:=Hd hO6;have HN6:=Hd hN6;clear hO6 hN6;go_wp2_with (refine eA rfl (.tmp 54) (.tmp 59) rfl (.slice ua ej.length uc) ej (by rfl) (HI.out.e.kept HO6.out (by simp)) w6.heap.size 1 (by rfl) (nm,t) (by rw [← HSN.out];exact ab 0 HN6.out) (ab 1 HN6.out) (by omega) ?_;intro a7 c7 w7 h7 x7;have H7:=Hd (And.intro h7 x7);clear h7 x7)
    obtain ⟨h7,x7⟩:=H7.out;refine ⟨⟨j+1,v6,r2.declare nm p,ej++[(nm,t)],by omega,by simp,Hd ((HI.out.quiet HO6.out).grow h7 x7),Hd (by rw [HXJ.out,HXR2.out]),Hd ((HI.out.quiet HO6.out).kept_ss HLO.out HB.out (HVj.out.quiet HO6.out) x7),?_⟩,?_⟩
    ·rw [List.length_append];exact hej3
    ·simp [intOf];omega
   ·rw [if_neg h1] at HXR;have h1':(k == 1)=false:=by simpa using h1
    by_cases h6:k=6
    ·subst h6;have hL:L0=1:=by rcases HKS.out with h | h | h<;>omega
     subst hL;obtain ⟨-,gq,k',nn',nm',zs,p',a',c',haq,hq0,z0,z1,z2,z3,z4,hv'⟩:=HV0.out.elem (j:=0) (by omega);cases haq;simp only [Nat.zero_mul,Nat.zero_add,Nat.one_mul,Nat.reduceMul,Nat.reduceAdd] at z0 z1 z2 z3 z4;have hwz:=fA HWX.out hq0;have hsq:=bu hq0;obtain ⟨e',hee⟩:∃ e',e'=E.mk k' nn' nm' zs p':=⟨_,rfl⟩
     obtain ⟨sn',hsn'⟩:∃ s,s=ai nm':=⟨_,rfl⟩
     obtain ⟨L,hL⟩:∃ L,L=zs.length:=⟨_,rfl⟩
     have hev:EV w1 B e' [.int .i64 k',.int .i64 nn',.string sn',.slice a' L c',.int .i64 p']:=by rw [hee,hsn',hL];exact EV.mk' hv'
     rw [← hee] at hsq hq0;rw [← hsn'] at z2;rw [← hL] at z3;have hys:ys=[e']:=by
      have hl:=HL0.out
      match ys,hl,hq0 with
      | [y],_,hq0=>simpa using hq0
     have hxr:=HXR.out;rw [if_pos rfl,hys] at hxr;dsimp only at hxr;obtain ⟨r2,hr2⟩:∃ r2,r2=bp rj e' 2 ej:=⟨_,rfl⟩
     have K1:=eT HI.out.k hev (by omega) HB.out HI.out.e (by omega) 2;rw [← hr2] at K1 hxr;have HXR2:=Hd hxr;have y2:w1.cell? ⟨gb,2,none⟩=some (.slice (some ⟨gq,0,none⟩) 1 c0):=ab 2 HBX.out;have I1:=IS _ hsz1 bd (Nat.le_refl _);have I2:=IS _ hsz2 els (Nat.le_refl _);have HI1:=Hd I1;have HI2:=Hd I2;clear hwz hsq hee hsn' hL hev hys hxr hr2 hq0 hv' HXR I1 I2 h1;(go_wp2_with fail);refine K1.mono ?_;rintro en w5 ⟨rfl,v5,hk5,ht5⟩;have hbxN:=ht5.heap HI.out.k HBX.out (by decide) (by decide);replace HVj:=Hd (kept_ss HVj.out HI.out.k HB.out ht5);replace HV0:=Hd (kept_es HV0.out HI.out.k HB.out ht5);replace HV1:=Hd (kept_ss HV1.out HI.out.k HB.out ht5);replace HV2:=Hd (kept_ss HV2.out HI.out.k HB.out ht5);replace HBX:=Hd hbxN;replace HI:=Hd (HI.out.state hk5 ht5);clear hbxN hk5 ht5;clear K1 y2 z0 z1 z2 z3 z4;have y4:w5.cell? ⟨gb,4,none⟩=some (.slice a1 L1 c1):=ab 4 HBX.out;have K2:=HI1.out w5 lo g v5 r2 _ B ej _ HI.out.k HWB.out HV1.out HB.out HI.out.e (by omega);(go_wp2_with fail);refine K2.mono ?_;rintro en w6 ⟨ve6,v6,rfl,hb6⟩;obtain ⟨r6,hr6⟩:∃ x,x=(ay r2 bd ej).1:=⟨_,rfl⟩
     have hk6:=hb6.k;have ht6:=hb6.t;rw [← hr6] at hk6;have hxr:=HXR2.out;rw [← hr6] at hxr;have HXR3:=Hd hxr;have hbxN:=ht6.heap HI.out.k HBX.out (by decide) (by decide);replace HVj:=Hd (kept_ss HVj.out HI.out.k HB.out ht6);replace HV0:=Hd (kept_es HV0.out HI.out.k HB.out ht6);replace HV1:=Hd (kept_ss HV1.out HI.out.k HB.out ht6);replace HV2:=Hd (kept_ss HV2.out HI.out.k HB.out ht6);replace HBX:=Hd hbxN;replace HI:=Hd (HI.out.state hk6 ht6);clear hbxN hk6 ht6;clear K2 y4 hb6 hr6 hxr HXR2;have y5:w6.cell? ⟨gb,5,none⟩=some (.slice a2 L2 c2):=ab 5 HBX.out;have K3:=HI2.out w6 lo g v6 r6 _ B ej _ HI.out.k HWE.out HV2.out HB.out HI.out.e (by omega);(go_wp2_with fail);refine K3.mono ?_;rintro en w7 ⟨ve7,v7,rfl,hb7⟩;obtain ⟨r7,hr7⟩:∃ x,x=(ay r6 els ej).1:=⟨_,rfl⟩
     have hk7:=hb7.k;have ht7:=hb7.t;rw [← hr7] at hk7;have hxr:=HXR3.out;rw [← hr7] at hxr;have HXR4:=Hd hxr;have hbxN:=ht7.heap HI.out.k HBX.out (by decide) (by decide);replace HVj:=Hd (kept_ss HVj.out HI.out.k HB.out ht7);replace HV0:=Hd (kept_es HV0.out HI.out.k HB.out ht7);replace HV1:=Hd (kept_ss HV1.out HI.out.k HB.out ht7);replace HV2:=Hd (kept_ss HV2.out HI.out.k HB.out ht7);replace HBX:=Hd hbxN;replace HI:=Hd (HI.out.state hk7 ht7);clear hbxN hk7 ht7;clear K3 y5 hb7 hr7 hxr HXR3;(go_wp2_with fail);refine ⟨⟨j+1,v7,r7,ej,by omega,by simp,HI,Hd (by rw [HXJ.out,HXR4.out]),HVj,by omega⟩,?_⟩;simp [intOf];omega
    ·rw [if_neg h6] at HXR;have h6':(k == 6)=false:=by simpa using h6
     by_cases h78:k=7∨k=8
     ·rw [if_pos h78] at HXR;have y1:w1.cell? ⟨gb,1,none⟩=some (.string sn):=ab 1 HBX.out;have y6:w1.cell? ⟨gb,6,none⟩=some (.int .i64 p):=ab 6 HBX.out;have I1:=IS _ hsz1 bd (Nat.le_refl _);have HI1:=Hd I1;have K1:=eS HI.out.k nm p;rw [← HSN.out] at K1;obtain ⟨r2,hr2⟩:∃ r2,r2=rj.declare nm p:=⟨_,rfl⟩
      have hxr:=HXR.out;rw [← hr2] at K1 hxr;have HXR2:=Hd hxr;clear I1 hr2 hxr HXR h1 h6;rcases h78 with h7 | h7
      ·subst h7;(go_wp2_with fail);refine K1.mono ?_;rintro en w5 ⟨rfl,v5,hk5,ht5⟩;have hbxN:=ht5.heap HI.out.k HBX.out (by decide) (by decide);replace HVj:=Hd (kept_ss HVj.out HI.out.k HB.out ht5);replace HV0:=Hd (kept_es HV0.out HI.out.k HB.out ht5);replace HV1:=Hd (kept_ss HV1.out HI.out.k HB.out ht5);replace HV2:=Hd (kept_ss HV2.out HI.out.k HB.out ht5);replace HBX:=Hd hbxN;replace HI:=Hd (HI.out.state hk5 ht5);clear hbxN hk5 ht5;clear K1 y0 y1 y6;have y3:w5.cell? ⟨gb,3,none⟩=some (.int .i64 nn):=ab 3 HBX.out
       by_cases h64:64 < nn
       ·have hxr:=HXR2.out;rw [if_pos h64] at hxr;obtain ⟨r3,hr3⟩:∃ r3,r3=r2.fail 11 p:=⟨_,rfl⟩
        have K2:=cF HI.out.k 11 p;rw [← hr3] at hxr K2;have HXR3:=Hd hxr;have y6:w5.cell? ⟨gb,6,none⟩=some (.int .i64 p):=ab 6 HBX.out;clear hxr hr3 HXR2;(go_wp2_with fail);refine K2.mono ?_;rintro en w6 ⟨rfl,hk6,ht6⟩;have hbxN:=ht6.heap HI.out.k HBX.out (by decide) (by decide);replace HVj:=Hd (kept_ss HVj.out HI.out.k HB.out ht6);replace HV0:=Hd (kept_es HV0.out HI.out.k HB.out ht6);replace HV1:=Hd (kept_ss HV1.out HI.out.k HB.out ht6);replace HV2:=Hd (kept_ss HV2.out HI.out.k HB.out ht6);replace HBX:=Hd hbxN;replace HI:=Hd (HI.out.state hk6 ht6);clear hbxN hk6 ht6;clear K2 y3 y6;(go_upto_region 22 with (fail));have oD:Only [] w6 w6.drew:=(Only.refl [] w6).drew;refine wp_region_held_drew (S:=fun w'=>w'.cell? ⟨gb,4,none⟩=some (.slice a1 L1 c1)∧w'.cell? ⟨gb,1,none⟩=some (.string sn)) (by kernel_rfl) ⟨ae oD (ab 4 HBX.out) (by simp),ae oD (ab 1 HBX.out) (by simp)⟩ (fun hH=>?_);replace HI:=Hd (HI.out.quiet oD);replace HVj:=Hd (HVj.out.quiet oD);replace HV1:=Hd (HV1.out.quiet oD);replace HBX:=Hd (oD.heap HBX.out (by simp));clear oD HV0 HV2;generalize w6.drew=wd at HI HVj HV1 HBX hH⊢;have HOZ:=Hd (Only.refl [] wd);refine tk 0 hH ?_;refine tk 1 hH ?_;refine tk 2 hH ?_;refine tk 4 hH ?_;refine tk 6 hH ?_;refine tk 7 hH ?_;refine tk 8 hH ?_;refine wpAnyH_ready (rs:=[3,9]) (by kernel_rfl) (by simp) ?_;refine bU rfl rfl (fun K hK=>?_) (fun K hK=>?_)
        ·go_simp;obtain ⟨wa,q9,oE,-,sE⟩:=nb wd (.cells #[] 123);have hE:=OKn.empty wd;rw [← q9] at hE⊢;clear q9;obtain ⟨ge,hge⟩:∃ ge,ge=wd.heap.size:=⟨_,rfl⟩
         rw [← hge] at hE sE⊢;have hgez:wd.heap.size≤ge:=by rw [hge];exact HOZ.out.size
         replace HOZ:=Hd (HOZ.out.trans oE (by simp));have HEm:=Hd hE
         skip
         have HSE:=Hd sE;have HGE:=Hd hge;refine hK.out _ _ ⟨ab 4 (HOZ.out.heap HBX.out (by simp)),ab 1 (HOZ.out.heap HBX.out (by simp))⟩ (fun hH=>?_);clear hK K oE hE sE hge;refine wpAnyH_ready (rs:=[5,9]) (by kernel_rfl) (by simp) ?_;refine bU rfl rfl (fun K hK=>?_) (fun K hK=>?_)
         ·skip
          refine aA (by rfl) (.tmp 99) (.tmp 100) (by rfl) (.slice (some ⟨ge,0,none⟩) 0 0) (.slice ua ej.length uc) [] ej (by rfl) HEm.out (by rfl) (HI.out.e.kept HOZ.out (by simp)) (by simp;omega) (fun a5 c5 wb h5 x5=>?_)
          have o5:Only [] wd wb:=HOZ.out.trans x5.only (fun q hq=>.inr (by
           have:=hq;simp [Value.ownBlock] at this
           omega))
          have s5:∀ q,(Value.slice a5 (([]:Env).length+ej.length) c5).ownBlock=some q→wd.heap.size≤q:=fun q hq=>by
           rcases x5.src q hq with e | e
           ·have:=e;simp [Value.ownBlock] at this;omega
           ·exact Nat.le_trans HOZ.out.size e
          skip
          replace HOZ:=Hd o5;simp only [List.length_nil,Nat.zero_add,List.nil_append] at h5 s5⊢;have HA5:=Hd h5;have HS5:=Hd s5;refine hK.out _ _ ⟨ab 4 (HOZ.out.heap HBX.out (by simp)),ab 1 (HOZ.out.heap HBX.out (by simp))⟩ (fun hH=>?_);clear hK K o5 h5 s5 x5 HEm;refine rd 9 (fun K hK=>?_);go_simp;obtain ⟨wc,q9,oN,hN,sN⟩:=nb wb (.cells #[.string sn,.int .i64 1] 123);rw [← q9];clear q9;obtain ⟨gn,hgn⟩:∃ gn,gn=wb.heap.size:=⟨_,rfl⟩
          rw [← hgn] at hN sN⊢;replace HOZ:=Hd (HOZ.out.trans oN (by simp));have HNn:=Hd hN;replace HA5:=Hd (HA5.out.kept oN (by simp));have HSN2:=Hd sN;have HGN:=Hd hgn;refine hK.out _ _ ⟨ab 4 (HOZ.out.heap HBX.out (by simp)),ab 1 (HOZ.out.heap HBX.out (by simp))⟩ (fun hH=>?_);clear hK K oN hN sN hgn;refine rd 10 (fun K hK=>?_);refine aD (by rfl) (.tmp 101) (.tmp 105) (by rfl) (.slice a5 ej.length c5) ej (by rfl) HA5.out gn 1 (by rfl) (nm,1) (by rw [← HSN.out];exact ab 0 HNn.out) (ab 1 HNn.out) (by omega) (fun a6 c6 wz h6 x6=>?_);have o6:Only [] wd wz:=HOZ.out.trans x6.only (fun q hq=>.inr (HS5.out q (by simpa using hq)));replace HOZ:=Hd o6;have HA6:=Hd h6;refine hK.out _ _ ⟨ab 4 (HOZ.out.heap HBX.out (by simp)),ab 1 (HOZ.out.heap HBX.out (by simp))⟩ (fun hH=>?_);clear hK K o6 h6 x6 HA5 HS5 HNn;refine rd 11 (fun K hK=>?_);go_simp;refine (HI1.out wz lo g _ r3 _ B (ej++[(nm,1)]) _ (HI.out.k.quiet HOZ.out) HWB.out (HV1.out.quiet HOZ.out) HB.out HA6.out (by rw [List.length_append];exact hej1)).mono ?_;rintro en w7 ⟨ve7,v7,rfl,hb7⟩;have hk7:=hb7.k;have ht7:=hb7.t;obtain ⟨r7,hr7⟩:∃ x,x=(ay r3 bd (ej++[(nm,1)])).1:=⟨_,rfl⟩
          have hxr:=HXR3.out;rw [← hr7] at hxr hk7;have hbx7:=ht7.heap (HI.out.k.quiet HOZ.out) (HOZ.out.heap HBX.out (by simp)) (by decide) (by decide);have HVj7:=Hd (kept_ss (HVj.out.quiet HOZ.out) (HI.out.k.quiet HOZ.out) HB.out ht7);have HI7:=Hd ((HI.out.quiet HOZ.out).state hk7 ht7);have HXR4:=Hd hxr;refine hK.out _ _ ⟨ab 4 hbx7,ab 1 hbx7⟩ (fun hH=>?_);clear hK K hb7 hk7 ht7 hr7 hxr hbx7 hH;refine wpAnyH_done (by kernel_rfl) ?_ _;(go_wp2_with fail);refine ⟨⟨j+1,v7,r7,ej,by omega,by simp,HI7,Hd (by rw [HXJ.out,HXR4.out]),HVj7,by omega⟩,?_⟩;simp [intOf];omega
         ·go_simp;obtain ⟨wb,q9,oN,hN,sN⟩:=nb wa (.cells #[.string sn,.int .i64 1] 123);rw [← q9];clear q9;obtain ⟨gn,hgn⟩:∃ gn,gn=wa.heap.size:=⟨_,rfl⟩
          rw [← hgn] at hN sN⊢;replace HOZ:=Hd (HOZ.out.trans oN (by simp));have HNn:=Hd hN;replace HEm:=Hd (HEm.out.kept oN (by simp));have HSN2:=Hd sN;have HGN:=Hd hgn;refine hK.out _ _ ⟨ab 4 (HOZ.out.heap HBX.out (by simp)),ab 1 (HOZ.out.heap HBX.out (by simp))⟩ (fun hH=>?_);clear hK K oN hN sN hgn;refine rd 5 (fun K hK=>?_);refine aA (by rfl) (.tmp 99) (.tmp 100) (by rfl) (.slice (some ⟨ge,0,none⟩) 0 0) (.slice ua ej.length uc) [] ej (by rfl) HEm.out (by rfl) (HI.out.e.kept HOZ.out (by simp)) (by simp;omega) (fun a5 c5 wc h5 x5=>?_)
          have o5:Only [] wd wc:=HOZ.out.trans x5.only (fun q hq=>.inr (by
           have:=hq;simp [Value.ownBlock] at this
           omega))
          have s5:∀ q,(Value.slice a5 (([]:Env).length+ej.length) c5).ownBlock=some q→wd.heap.size≤q:=fun q hq=>by
           rcases x5.src q hq with e | e
           ·have:=e;simp [Value.ownBlock] at this;omega
           ·exact Nat.le_trans HOZ.out.size e
          replace HNn:=Hd (x5.only.heap HNn.out (by have q1:=HSE.out;have q2:=HGN.out;have q3:=HSN2.out;have q4:=HGE.out;simp [Value.ownBlock];omega));replace HOZ:=Hd o5;simp only [List.length_nil,Nat.zero_add,List.nil_append] at h5 s5⊢;have HA5:=Hd h5;have HS5:=Hd s5;refine hK.out _ _ ⟨ab 4 (HOZ.out.heap HBX.out (by simp)),ab 1 (HOZ.out.heap HBX.out (by simp))⟩ (fun hH=>?_);clear hK K o5 h5 s5 x5 HEm;refine rd 10 (fun K hK=>?_);refine aD (by rfl) (.tmp 101) (.tmp 105) (by rfl) (.slice a5 ej.length c5) ej (by rfl) HA5.out gn 1 (by rfl) (nm,1) (by rw [← HSN.out];exact ab 0 HNn.out) (ab 1 HNn.out) (by omega) (fun a6 c6 wz h6 x6=>?_);have o6:Only [] wd wz:=HOZ.out.trans x6.only (fun q hq=>.inr (HS5.out q (by simpa using hq)));replace HOZ:=Hd o6;have HA6:=Hd h6;refine hK.out _ _ ⟨ab 4 (HOZ.out.heap HBX.out (by simp)),ab 1 (HOZ.out.heap HBX.out (by simp))⟩ (fun hH=>?_);clear hK K o6 h6 x6 HA5 HS5 HNn;refine rd 11 (fun K hK=>?_);go_simp;refine (HI1.out wz lo g _ r3 _ B (ej++[(nm,1)]) _ (HI.out.k.quiet HOZ.out) HWB.out (HV1.out.quiet HOZ.out) HB.out HA6.out (by rw [List.length_append];exact hej1)).mono ?_;rintro en w7 ⟨ve7,v7,rfl,hb7⟩;have hk7:=hb7.k;have ht7:=hb7.t;obtain ⟨r7,hr7⟩:∃ x,x=(ay r3 bd (ej++[(nm,1)])).1:=⟨_,rfl⟩
          have hxr:=HXR3.out;rw [← hr7] at hxr hk7;have hbx7:=ht7.heap (HI.out.k.quiet HOZ.out) (HOZ.out.heap HBX.out (by simp)) (by decide) (by decide);have HVj7:=Hd (kept_ss (HVj.out.quiet HOZ.out) (HI.out.k.quiet HOZ.out) HB.out ht7);have HI7:=Hd ((HI.out.quiet HOZ.out).state hk7 ht7);have HXR4:=Hd hxr;refine hK.out _ _ ⟨ab 4 hbx7,ab 1 hbx7⟩ (fun hH=>?_);clear hK K hb7 hk7 ht7 hr7 hxr hbx7 hH;refine wpAnyH_done (by kernel_rfl) ?_ _;(go_wp2_with fail);refine ⟨⟨j+1,v7,r7,ej,by omega,by simp,HI7,Hd (by rw [HXJ.out,HXR4.out]),HVj7,by omega⟩,?_⟩;simp [intOf];omega
        ·go_simp;obtain ⟨wa,q9,oN,hN,sN⟩:=nb wd (.cells #[.string sn,.int .i64 1] 123);rw [← q9];clear q9;obtain ⟨gn,hgn⟩:∃ gn,gn=wd.heap.size:=⟨_,rfl⟩
         rw [← hgn] at hN sN⊢;replace HOZ:=Hd (HOZ.out.trans oN (by simp));have HNn:=Hd hN
         skip
         have HSN2:=Hd sN;have HGN:=Hd hgn;refine hK.out _ _ ⟨ab 4 (HOZ.out.heap HBX.out (by simp)),ab 1 (HOZ.out.heap HBX.out (by simp))⟩ (fun hH=>?_);clear hK K oN hN sN hgn;refine rd 3 (fun K hK=>?_);go_simp;obtain ⟨wb,q9,oE,-,sE⟩:=nb wa (.cells #[] 123);have hE:=OKn.empty wa;rw [← q9] at hE⊢;clear q9;obtain ⟨ge,hge⟩:∃ ge,ge=wa.heap.size:=⟨_,rfl⟩
         rw [← hge] at hE sE⊢;have hgez:wd.heap.size≤ge:=by rw [hge];exact HOZ.out.size
         replace HOZ:=Hd (HOZ.out.trans oE (by simp));have HEm:=Hd hE;replace HNn:=Hd (oE.heap HNn.out (by simp));have HSE:=Hd sE;have HGE:=Hd hge;refine hK.out _ _ ⟨ab 4 (HOZ.out.heap HBX.out (by simp)),ab 1 (HOZ.out.heap HBX.out (by simp))⟩ (fun hH=>?_);clear hK K oE hE sE hge;refine rd 5 (fun K hK=>?_);refine aA (by rfl) (.tmp 99) (.tmp 100) (by rfl) (.slice (some ⟨ge,0,none⟩) 0 0) (.slice ua ej.length uc) [] ej (by rfl) HEm.out (by rfl) (HI.out.e.kept HOZ.out (by simp)) (by simp;omega) (fun a5 c5 wc h5 x5=>?_)
         have o5:Only [] wd wc:=HOZ.out.trans x5.only (fun q hq=>.inr (by
          have:=hq;simp [Value.ownBlock] at this
          omega))
         have s5:∀ q,(Value.slice a5 (([]:Env).length+ej.length) c5).ownBlock=some q→wd.heap.size≤q:=fun q hq=>by
          rcases x5.src q hq with e | e
          ·have:=e;simp [Value.ownBlock] at this;omega
          ·exact Nat.le_trans HOZ.out.size e
         replace HNn:=Hd (x5.only.heap HNn.out (by have q1:=HSE.out;have q2:=HGN.out;have q3:=HSN2.out;have q4:=HGE.out;simp [Value.ownBlock];omega));replace HOZ:=Hd o5;simp only [List.length_nil,Nat.zero_add,List.nil_append] at h5 s5⊢;have HA5:=Hd h5;have HS5:=Hd s5;refine hK.out _ _ ⟨ab 4 (HOZ.out.heap HBX.out (by simp)),ab 1 (HOZ.out.heap HBX.out (by simp))⟩ (fun hH=>?_);clear hK K o5 h5 s5 x5 HEm;refine rd 10 (fun K hK=>?_);refine aD (by rfl) (.tmp 101) (.tmp 105) (by rfl) (.slice a5 ej.length c5) ej (by rfl) HA5.out gn 1 (by rfl) (nm,1) (by rw [← HSN.out];exact ab 0 HNn.out) (ab 1 HNn.out) (by omega) (fun a6 c6 wz h6 x6=>?_);have o6:Only [] wd wz:=HOZ.out.trans x6.only (fun q hq=>.inr (HS5.out q (by simpa using hq)));replace HOZ:=Hd o6;have HA6:=Hd h6;refine hK.out _ _ ⟨ab 4 (HOZ.out.heap HBX.out (by simp)),ab 1 (HOZ.out.heap HBX.out (by simp))⟩ (fun hH=>?_);clear hK K o6 h6 x6 HA5 HS5 HNn;refine rd 11 (fun K hK=>?_);go_simp;refine (HI1.out wz lo g _ r3 _ B (ej++[(nm,1)]) _ (HI.out.k.quiet HOZ.out) HWB.out (HV1.out.quiet HOZ.out) HB.out HA6.out (by rw [List.length_append];exact hej1)).mono ?_;rintro en w7 ⟨ve7,v7,rfl,hb7⟩;have hk7:=hb7.k;have ht7:=hb7.t;obtain ⟨r7,hr7⟩:∃ x,x=(ay r3 bd (ej++[(nm,1)])).1:=⟨_,rfl⟩
         have hxr:=HXR3.out;rw [← hr7] at hxr hk7;have hbx7:=ht7.heap (HI.out.k.quiet HOZ.out) (HOZ.out.heap HBX.out (by simp)) (by decide) (by decide);have HVj7:=Hd (kept_ss (HVj.out.quiet HOZ.out) (HI.out.k.quiet HOZ.out) HB.out ht7);have HI7:=Hd ((HI.out.quiet HOZ.out).state hk7 ht7);have HXR4:=Hd hxr;refine hK.out _ _ ⟨ab 4 hbx7,ab 1 hbx7⟩ (fun hH=>?_);clear hK K hb7 hk7 ht7 hr7 hxr hbx7 hH;refine wpAnyH_done (by kernel_rfl) ?_ _;(go_wp2_with fail);refine ⟨⟨j+1,v7,r7,ej,by omega,by simp,HI7,Hd (by rw [HXJ.out,HXR4.out]),HVj7,by omega⟩,?_⟩;simp [intOf];omega
       ·have hxr:=HXR2.out;rw [if_neg h64] at hxr;obtain ⟨r3,hr3⟩:∃ r3,r3=r2:=⟨_,rfl⟩
        rw [← hr3] at hxr HI;have HXR3:=Hd hxr;clear hxr hr3 HXR2;(go_upto_region 22 with (fail));have oD:Only [] w5 w5.drew:=(Only.refl [] w5).drew;refine wp_region_held_drew (S:=fun w'=>w'.cell? ⟨gb,4,none⟩=some (.slice a1 L1 c1)∧w'.cell? ⟨gb,1,none⟩=some (.string sn)) (by kernel_rfl) ⟨ae oD (ab 4 HBX.out) (by simp),ae oD (ab 1 HBX.out) (by simp)⟩ (fun hH=>?_);replace HI:=Hd (HI.out.quiet oD);replace HVj:=Hd (HVj.out.quiet oD);replace HV1:=Hd (HV1.out.quiet oD);replace HBX:=Hd (oD.heap HBX.out (by simp));clear oD HV0 HV2;generalize w5.drew=wd at HI HVj HV1 HBX hH⊢;have HOZ:=Hd (Only.refl [] wd);refine tk 0 hH ?_;refine tk 1 hH ?_;refine tk 2 hH ?_;refine tk 4 hH ?_;refine tk 6 hH ?_;refine tk 7 hH ?_;refine tk 8 hH ?_;refine wpAnyH_ready (rs:=[3,9]) (by kernel_rfl) (by simp) ?_;refine bU rfl rfl (fun K hK=>?_) (fun K hK=>?_)
        ·go_simp;obtain ⟨wa,q9,oE,-,sE⟩:=nb wd (.cells #[] 123);have hE:=OKn.empty wd;rw [← q9] at hE⊢;clear q9;obtain ⟨ge,hge⟩:∃ ge,ge=wd.heap.size:=⟨_,rfl⟩
         rw [← hge] at hE sE⊢;have hgez:wd.heap.size≤ge:=by rw [hge];exact HOZ.out.size
         replace HOZ:=Hd (HOZ.out.trans oE (by simp));have HEm:=Hd hE
         skip
         have HSE:=Hd sE;have HGE:=Hd hge;refine hK.out _ _ ⟨ab 4 (HOZ.out.heap HBX.out (by simp)),ab 1 (HOZ.out.heap HBX.out (by simp))⟩ (fun hH=>?_);clear hK K oE hE sE hge;refine wpAnyH_ready (rs:=[5,9]) (by kernel_rfl) (by simp) ?_;refine bU rfl rfl (fun K hK=>?_) (fun K hK=>?_)
         ·skip
          refine aA (by rfl) (.tmp 99) (.tmp 100) (by rfl) (.slice (some ⟨ge,0,none⟩) 0 0) (.slice ua ej.length uc) [] ej (by rfl) HEm.out (by rfl) (HI.out.e.kept HOZ.out (by simp)) (by simp;omega) (fun a5 c5 wb h5 x5=>?_)
          have o5:Only [] wd wb:=HOZ.out.trans x5.only (fun q hq=>.inr (by
           have:=hq;simp [Value.ownBlock] at this
           omega))
          have s5:∀ q,(Value.slice a5 (([]:Env).length+ej.length) c5).ownBlock=some q→wd.heap.size≤q:=fun q hq=>by
           rcases x5.src q hq with e | e
           ·have:=e;simp [Value.ownBlock] at this;omega
           ·exact Nat.le_trans HOZ.out.size e
          skip
          replace HOZ:=Hd o5;simp only [List.length_nil,Nat.zero_add,List.nil_append] at h5 s5⊢;have HA5:=Hd h5;have HS5:=Hd s5;refine hK.out _ _ ⟨ab 4 (HOZ.out.heap HBX.out (by simp)),ab 1 (HOZ.out.heap HBX.out (by simp))⟩ (fun hH=>?_);clear hK K o5 h5 s5 x5 HEm;refine rd 9 (fun K hK=>?_);go_simp;obtain ⟨wc,q9,oN,hN,sN⟩:=nb wb (.cells #[.string sn,.int .i64 1] 123);rw [← q9];clear q9;obtain ⟨gn,hgn⟩:∃ gn,gn=wb.heap.size:=⟨_,rfl⟩
          rw [← hgn] at hN sN⊢;replace HOZ:=Hd (HOZ.out.trans oN (by simp));have HNn:=Hd hN;replace HA5:=Hd (HA5.out.kept oN (by simp));have HSN2:=Hd sN;have HGN:=Hd hgn;refine hK.out _ _ ⟨ab 4 (HOZ.out.heap HBX.out (by simp)),ab 1 (HOZ.out.heap HBX.out (by simp))⟩ (fun hH=>?_);clear hK K oN hN sN hgn;refine rd 10 (fun K hK=>?_);refine aD (by rfl) (.tmp 101) (.tmp 105) (by rfl) (.slice a5 ej.length c5) ej (by rfl) HA5.out gn 1 (by rfl) (nm,1) (by rw [← HSN.out];exact ab 0 HNn.out) (ab 1 HNn.out) (by omega) (fun a6 c6 wz h6 x6=>?_);have o6:Only [] wd wz:=HOZ.out.trans x6.only (fun q hq=>.inr (HS5.out q (by simpa using hq)));replace HOZ:=Hd o6;have HA6:=Hd h6;refine hK.out _ _ ⟨ab 4 (HOZ.out.heap HBX.out (by simp)),ab 1 (HOZ.out.heap HBX.out (by simp))⟩ (fun hH=>?_);clear hK K o6 h6 x6 HA5 HS5 HNn;refine rd 11 (fun K hK=>?_);go_simp;refine (HI1.out wz lo g _ r3 _ B (ej++[(nm,1)]) _ (HI.out.k.quiet HOZ.out) HWB.out (HV1.out.quiet HOZ.out) HB.out HA6.out (by rw [List.length_append];exact hej1)).mono ?_;rintro en w7 ⟨ve7,v7,rfl,hb7⟩;have hk7:=hb7.k;have ht7:=hb7.t;obtain ⟨r7,hr7⟩:∃ x,x=(ay r3 bd (ej++[(nm,1)])).1:=⟨_,rfl⟩
          have hxr:=HXR3.out;rw [← hr7] at hxr hk7;have hbx7:=ht7.heap (HI.out.k.quiet HOZ.out) (HOZ.out.heap HBX.out (by simp)) (by decide) (by decide);have HVj7:=Hd (kept_ss (HVj.out.quiet HOZ.out) (HI.out.k.quiet HOZ.out) HB.out ht7);have HI7:=Hd ((HI.out.quiet HOZ.out).state hk7 ht7);have HXR4:=Hd hxr;refine hK.out _ _ ⟨ab 4 hbx7,ab 1 hbx7⟩ (fun hH=>?_);clear hK K hb7 hk7 ht7 hr7 hxr hbx7 hH;refine wpAnyH_done (by kernel_rfl) ?_ _;(go_wp2_with fail);refine ⟨⟨j+1,v7,r7,ej,by omega,by simp,HI7,Hd (by rw [HXJ.out,HXR4.out]),HVj7,by omega⟩,?_⟩;simp [intOf];omega
         ·go_simp;obtain ⟨wb,q9,oN,hN,sN⟩:=nb wa (.cells #[.string sn,.int .i64 1] 123);rw [← q9];clear q9;obtain ⟨gn,hgn⟩:∃ gn,gn=wa.heap.size:=⟨_,rfl⟩
          rw [← hgn] at hN sN⊢;replace HOZ:=Hd (HOZ.out.trans oN (by simp));have HNn:=Hd hN;replace HEm:=Hd (HEm.out.kept oN (by simp));have HSN2:=Hd sN;have HGN:=Hd hgn;refine hK.out _ _ ⟨ab 4 (HOZ.out.heap HBX.out (by simp)),ab 1 (HOZ.out.heap HBX.out (by simp))⟩ (fun hH=>?_);clear hK K oN hN sN hgn;refine rd 5 (fun K hK=>?_);refine aA (by rfl) (.tmp 99) (.tmp 100) (by rfl) (.slice (some ⟨ge,0,none⟩) 0 0) (.slice ua ej.length uc) [] ej (by rfl) HEm.out (by rfl) (HI.out.e.kept HOZ.out (by simp)) (by simp;omega) (fun a5 c5 wc h5 x5=>?_)
          have o5:Only [] wd wc:=HOZ.out.trans x5.only (fun q hq=>.inr (by
           have:=hq;simp [Value.ownBlock] at this
           omega))
          have s5:∀ q,(Value.slice a5 (([]:Env).length+ej.length) c5).ownBlock=some q→wd.heap.size≤q:=fun q hq=>by
           rcases x5.src q hq with e | e
           ·have:=e;simp [Value.ownBlock] at this;omega
           ·exact Nat.le_trans HOZ.out.size e
          replace HNn:=Hd (x5.only.heap HNn.out (by have q1:=HSE.out;have q2:=HGN.out;have q3:=HSN2.out;have q4:=HGE.out;simp [Value.ownBlock];omega));replace HOZ:=Hd o5;simp only [List.length_nil,Nat.zero_add,List.nil_append] at h5 s5⊢;have HA5:=Hd h5;have HS5:=Hd s5;refine hK.out _ _ ⟨ab 4 (HOZ.out.heap HBX.out (by simp)),ab 1 (HOZ.out.heap HBX.out (by simp))⟩ (fun hH=>?_);clear hK K o5 h5 s5 x5 HEm;refine rd 10 (fun K hK=>?_);refine aD (by rfl) (.tmp 101) (.tmp 105) (by rfl) (.slice a5 ej.length c5) ej (by rfl) HA5.out gn 1 (by rfl) (nm,1) (by rw [← HSN.out];exact ab 0 HNn.out) (ab 1 HNn.out) (by omega) (fun a6 c6 wz h6 x6=>?_);have o6:Only [] wd wz:=HOZ.out.trans x6.only (fun q hq=>.inr (HS5.out q (by simpa using hq)));replace HOZ:=Hd o6;have HA6:=Hd h6;refine hK.out _ _ ⟨ab 4 (HOZ.out.heap HBX.out (by simp)),ab 1 (HOZ.out.heap HBX.out (by simp))⟩ (fun hH=>?_);clear hK K o6 h6 x6 HA5 HS5 HNn;refine rd 11 (fun K hK=>?_);go_simp;refine (HI1.out wz lo g _ r3 _ B (ej++[(nm,1)]) _ (HI.out.k.quiet HOZ.out) HWB.out (HV1.out.quiet HOZ.out) HB.out HA6.out (by rw [List.length_append];exact hej1)).mono ?_;rintro en w7 ⟨ve7,v7,rfl,hb7⟩;have hk7:=hb7.k;have ht7:=hb7.t;obtain ⟨r7,hr7⟩:∃ x,x=(ay r3 bd (ej++[(nm,1)])).1:=⟨_,rfl⟩
          have hxr:=HXR3.out;rw [← hr7] at hxr hk7;have hbx7:=ht7.heap (HI.out.k.quiet HOZ.out) (HOZ.out.heap HBX.out (by simp)) (by decide) (by decide);have HVj7:=Hd (kept_ss (HVj.out.quiet HOZ.out) (HI.out.k.quiet HOZ.out) HB.out ht7);have HI7:=Hd ((HI.out.quiet HOZ.out).state hk7 ht7);have HXR4:=Hd hxr;refine hK.out _ _ ⟨ab 4 hbx7,ab 1 hbx7⟩ (fun hH=>?_);clear hK K hb7 hk7 ht7 hr7 hxr hbx7 hH;refine wpAnyH_done (by kernel_rfl) ?_ _;(go_wp2_with fail);refine ⟨⟨j+1,v7,r7,ej,by omega,by simp,HI7,Hd (by rw [HXJ.out,HXR4.out]),HVj7,by omega⟩,?_⟩;simp [intOf];omega
        ·go_simp;obtain ⟨wa,q9,oN,hN,sN⟩:=nb wd (.cells #[.string sn,.int .i64 1] 123);rw [← q9];clear q9;obtain ⟨gn,hgn⟩:∃ gn,gn=wd.heap.size:=⟨_,rfl⟩
         rw [← hgn] at hN sN⊢;replace HOZ:=Hd (HOZ.out.trans oN (by simp));have HNn:=Hd hN
         skip
         have HSN2:=Hd sN;have HGN:=Hd hgn;refine hK.out _ _ ⟨ab 4 (HOZ.out.heap HBX.out (by simp)),ab 1 (HOZ.out.heap HBX.out (by simp))⟩ (fun hH=>?_);clear hK K oN hN sN hgn;refine rd 3 (fun K hK=>?_);go_simp;obtain ⟨wb,q9,oE,-,sE⟩:=nb wa (.cells #[] 123);have hE:=OKn.empty wa;rw [← q9] at hE⊢;clear q9;obtain ⟨ge,hge⟩:∃ ge,ge=wa.heap.size:=⟨_,rfl⟩
         rw [← hge] at hE sE⊢;have hgez:wd.heap.size≤ge:=by rw [hge];exact HOZ.out.size
         replace HOZ:=Hd (HOZ.out.trans oE (by simp));have HEm:=Hd hE;replace HNn:=Hd (oE.heap HNn.out (by simp));have HSE:=Hd sE;have HGE:=Hd hge;refine hK.out _ _ ⟨ab 4 (HOZ.out.heap HBX.out (by simp)),ab 1 (HOZ.out.heap HBX.out (by simp))⟩ (fun hH=>?_);clear hK K oE hE sE hge;refine rd 5 (fun K hK=>?_);refine aA (by rfl) (.tmp 99) (.tmp 100) (by rfl) (.slice (some ⟨ge,0,none⟩) 0 0) (.slice ua ej.length uc) [] ej (by rfl) HEm.out (by rfl) (HI.out.e.kept HOZ.out (by simp)) (by simp;omega) (fun a5 c5 wc h5 x5=>?_)
         have o5:Only [] wd wc:=HOZ.out.trans x5.only (fun q hq=>.inr (by
          have:=hq;simp [Value.ownBlock] at this
          omega))
         have s5:∀ q,(Value.slice a5 (([]:Env).length+ej.length) c5).ownBlock=some q→wd.heap.size≤q:=fun q hq=>by
          rcases x5.src q hq with e | e
          ·have:=e;simp [Value.ownBlock] at this;omega
          ·exact Nat.le_trans HOZ.out.size e
         replace HNn:=Hd (x5.only.heap HNn.out (by have q1:=HSE.out;have q2:=HGN.out;have q3:=HSN2.out;have q4:=HGE.out;simp [Value.ownBlock];omega));replace HOZ:=Hd o5;simp only [List.length_nil,Nat.zero_add,List.nil_append] at h5 s5⊢;have HA5:=Hd h5;have HS5:=Hd s5;refine hK.out _ _ ⟨ab 4 (HOZ.out.heap HBX.out (by simp)),ab 1 (HOZ.out.heap HBX.out (by simp))⟩ (fun hH=>?_);clear hK K o5 h5 s5 x5 HEm;refine rd 10 (fun K hK=>?_);refine aD (by rfl) (.tmp 101) (.tmp 105) (by rfl) (.slice a5 ej.length c5) ej (by rfl) HA5.out gn 1 (by rfl) (nm,1) (by rw [← HSN.out];exact ab 0 HNn.out) (ab 1 HNn.out) (by omega) (fun a6 c6 wz h6 x6=>?_);have o6:Only [] wd wz:=HOZ.out.trans x6.only (fun q hq=>.inr (HS5.out q (by simpa using hq)));replace HOZ:=Hd o6;have HA6:=Hd h6;refine hK.out _ _ ⟨ab 4 (HOZ.out.heap HBX.out (by simp)),ab 1 (HOZ.out.heap HBX.out (by simp))⟩ (fun hH=>?_);clear hK K o6 h6 x6 HA5 HS5 HNn;refine rd 11 (fun K hK=>?_);go_simp;refine (HI1.out wz lo g _ r3 _ B (ej++[(nm,1)]) _ (HI.out.k.quiet HOZ.out) HWB.out (HV1.out.quiet HOZ.out) HB.out HA6.out (by rw [List.length_append];exact hej1)).mono ?_;rintro en w7 ⟨ve7,v7,rfl,hb7⟩;have hk7:=hb7.k;have ht7:=hb7.t;obtain ⟨r7,hr7⟩:∃ x,x=(ay r3 bd (ej++[(nm,1)])).1:=⟨_,rfl⟩
         have hxr:=HXR3.out;rw [← hr7] at hxr hk7;have hbx7:=ht7.heap (HI.out.k.quiet HOZ.out) (HOZ.out.heap HBX.out (by simp)) (by decide) (by decide);have HVj7:=Hd (kept_ss (HVj.out.quiet HOZ.out) (HI.out.k.quiet HOZ.out) HB.out ht7);have HI7:=Hd ((HI.out.quiet HOZ.out).state hk7 ht7);have HXR4:=Hd hxr;refine hK.out _ _ ⟨ab 4 hbx7,ab 1 hbx7⟩ (fun hH=>?_);clear hK K hb7 hk7 ht7 hr7 hxr hbx7 hH;refine wpAnyH_done (by kernel_rfl) ?_ _;(go_wp2_with fail);refine ⟨⟨j+1,v7,r7,ej,by omega,by simp,HI7,Hd (by rw [HXJ.out,HXR4.out]),HVj7,by omega⟩,?_⟩;simp [intOf];omega
      ·subst h7;(go_wp2_with fail);refine K1.mono ?_;rintro en w5 ⟨rfl,v5,hk5,ht5⟩;have hbxN:=ht5.heap HI.out.k HBX.out (by decide) (by decide);replace HVj:=Hd (kept_ss HVj.out HI.out.k HB.out ht5);replace HV0:=Hd (kept_es HV0.out HI.out.k HB.out ht5);replace HV1:=Hd (kept_ss HV1.out HI.out.k HB.out ht5);replace HV2:=Hd (kept_ss HV2.out HI.out.k HB.out ht5);replace HBX:=Hd hbxN;replace HI:=Hd (HI.out.state hk5 ht5);clear hbxN hk5 ht5;clear K1 y0 y1 y6;have y3:w5.cell? ⟨gb,3,none⟩=some (.int .i64 nn):=ab 3 HBX.out
       by_cases h64:64 < nn
       ·have hxr:=HXR2.out;rw [if_pos h64] at hxr;obtain ⟨r3,hr3⟩:∃ r3,r3=r2.fail 11 p:=⟨_,rfl⟩
        have K2:=cF HI.out.k 11 p;rw [← hr3] at hxr K2;have HXR3:=Hd hxr;have y6:w5.cell? ⟨gb,6,none⟩=some (.int .i64 p):=ab 6 HBX.out;clear hxr hr3 HXR2;(go_wp2_with fail);refine K2.mono ?_;rintro en w6 ⟨rfl,hk6,ht6⟩;have hbxN:=ht6.heap HI.out.k HBX.out (by decide) (by decide);replace HVj:=Hd (kept_ss HVj.out HI.out.k HB.out ht6);replace HV0:=Hd (kept_es HV0.out HI.out.k HB.out ht6);replace HV1:=Hd (kept_ss HV1.out HI.out.k HB.out ht6);replace HV2:=Hd (kept_ss HV2.out HI.out.k HB.out ht6);replace HBX:=Hd hbxN;replace HI:=Hd (HI.out.state hk6 ht6);clear hbxN hk6 ht6;clear K2 y3 y6;(go_upto_region 22 with (fail));have oD:Only [] w6 w6.drew:=(Only.refl [] w6).drew;refine wp_region_held_drew (S:=fun w'=>w'.cell? ⟨gb,4,none⟩=some (.slice a1 L1 c1)∧w'.cell? ⟨gb,1,none⟩=some (.string sn)) (by kernel_rfl) ⟨ae oD (ab 4 HBX.out) (by simp),ae oD (ab 1 HBX.out) (by simp)⟩ (fun hH=>?_);replace HI:=Hd (HI.out.quiet oD);replace HVj:=Hd (HVj.out.quiet oD);replace HV1:=Hd (HV1.out.quiet oD);replace HBX:=Hd (oD.heap HBX.out (by simp));clear oD HV0 HV2;generalize w6.drew=wd at HI HVj HV1 HBX hH⊢;have HOZ:=Hd (Only.refl [] wd);refine tk 0 hH ?_;refine tk 1 hH ?_;refine tk 2 hH ?_;refine tk 4 hH ?_;refine tk 6 hH ?_;refine tk 7 hH ?_;refine tk 8 hH ?_;refine wpAnyH_ready (rs:=[3,9]) (by kernel_rfl) (by simp) ?_;refine bU rfl rfl (fun K hK=>?_) (fun K hK=>?_)
        ·go_simp;obtain ⟨wa,q9,oE,-,sE⟩:=nb wd (.cells #[] 123);have hE:=OKn.empty wd;rw [← q9] at hE⊢;clear q9;obtain ⟨ge,hge⟩:∃ ge,ge=wd.heap.size:=⟨_,rfl⟩
         rw [← hge] at hE sE⊢;have hgez:wd.heap.size≤ge:=by rw [hge];exact HOZ.out.size
         replace HOZ:=Hd (HOZ.out.trans oE (by simp));have HEm:=Hd hE
         skip
         have HSE:=Hd sE;have HGE:=Hd hge;refine hK.out _ _ ⟨ab 4 (HOZ.out.heap HBX.out (by simp)),ab 1 (HOZ.out.heap HBX.out (by simp))⟩ (fun hH=>?_);clear hK K oE hE sE hge;refine wpAnyH_ready (rs:=[5,9]) (by kernel_rfl) (by simp) ?_;refine bU rfl rfl (fun K hK=>?_) (fun K hK=>?_)
         ·skip
          refine aA (by rfl) (.tmp 99) (.tmp 100) (by rfl) (.slice (some ⟨ge,0,none⟩) 0 0) (.slice ua ej.length uc) [] ej (by rfl) HEm.out (by rfl) (HI.out.e.kept HOZ.out (by simp)) (by simp;omega) (fun a5 c5 wb h5 x5=>?_)
          have o5:Only [] wd wb:=HOZ.out.trans x5.only (fun q hq=>.inr (by
           have:=hq;simp [Value.ownBlock] at this
           omega))
          have s5:∀ q,(Value.slice a5 (([]:Env).length+ej.length) c5).ownBlock=some q→wd.heap.size≤q:=fun q hq=>by
           rcases x5.src q hq with e | e
           ·have:=e;simp [Value.ownBlock] at this;omega
           ·exact Nat.le_trans HOZ.out.size e
          skip
          replace HOZ:=Hd o5;simp only [List.length_nil,Nat.zero_add,List.nil_append] at h5 s5⊢;have HA5:=Hd h5;have HS5:=Hd s5;refine hK.out _ _ ⟨ab 4 (HOZ.out.heap HBX.out (by simp)),ab 1 (HOZ.out.heap HBX.out (by simp))⟩ (fun hH=>?_);clear hK K o5 h5 s5 x5 HEm;refine rd 9 (fun K hK=>?_);go_simp;obtain ⟨wc,q9,oN,hN,sN⟩:=nb wb (.cells #[.string sn,.int .i64 1] 123);rw [← q9];clear q9;obtain ⟨gn,hgn⟩:∃ gn,gn=wb.heap.size:=⟨_,rfl⟩
          rw [← hgn] at hN sN⊢;replace HOZ:=Hd (HOZ.out.trans oN (by simp));have HNn:=Hd hN;replace HA5:=Hd (HA5.out.kept oN (by simp));have HSN2:=Hd sN;have HGN:=Hd hgn;refine hK.out _ _ ⟨ab 4 (HOZ.out.heap HBX.out (by simp)),ab 1 (HOZ.out.heap HBX.out (by simp))⟩ (fun hH=>?_);clear hK K oN hN sN hgn;refine rd 10 (fun K hK=>?_);refine aD (by rfl) (.tmp 101) (.tmp 105) (by rfl) (.slice a5 ej.length c5) ej (by rfl) HA5.out gn 1 (by rfl) (nm,1) (by rw [← HSN.out];exact ab 0 HNn.out) (ab 1 HNn.out) (by omega) (fun a6 c6 wz h6 x6=>?_);have o6:Only [] wd wz:=HOZ.out.trans x6.only (fun q hq=>.inr (HS5.out q (by simpa using hq)));replace HOZ:=Hd o6;have HA6:=Hd h6;refine hK.out _ _ ⟨ab 4 (HOZ.out.heap HBX.out (by simp)),ab 1 (HOZ.out.heap HBX.out (by simp))⟩ (fun hH=>?_);clear hK K o6 h6 x6 HA5 HS5 HNn;refine rd 11 (fun K hK=>?_);go_simp;refine (HI1.out wz lo g _ r3 _ B (ej++[(nm,1)]) _ (HI.out.k.quiet HOZ.out) HWB.out (HV1.out.quiet HOZ.out) HB.out HA6.out (by rw [List.length_append];exact hej1)).mono ?_;rintro en w7 ⟨ve7,v7,rfl,hb7⟩;have hk7:=hb7.k;have ht7:=hb7.t;obtain ⟨r7,hr7⟩:∃ x,x=(ay r3 bd (ej++[(nm,1)])).1:=⟨_,rfl⟩
          have hxr:=HXR3.out;rw [← hr7] at hxr hk7;have hbx7:=ht7.heap (HI.out.k.quiet HOZ.out) (HOZ.out.heap HBX.out (by simp)) (by decide) (by decide);have HVj7:=Hd (kept_ss (HVj.out.quiet HOZ.out) (HI.out.k.quiet HOZ.out) HB.out ht7);have HI7:=Hd ((HI.out.quiet HOZ.out).state hk7 ht7);have HXR4:=Hd hxr;refine hK.out _ _ ⟨ab 4 hbx7,ab 1 hbx7⟩ (fun hH=>?_);clear hK K hb7 hk7 ht7 hr7 hxr hbx7 hH;refine wpAnyH_done (by kernel_rfl) ?_ _;(go_wp2_with fail);refine ⟨⟨j+1,v7,r7,ej,by omega,by simp,HI7,Hd (by rw [HXJ.out,HXR4.out]),HVj7,by omega⟩,?_⟩;simp [intOf];omega
         ·go_simp;obtain ⟨wb,q9,oN,hN,sN⟩:=nb wa (.cells #[.string sn,.int .i64 1] 123);rw [← q9];clear q9;obtain ⟨gn,hgn⟩:∃ gn,gn=wa.heap.size:=⟨_,rfl⟩
          rw [← hgn] at hN sN⊢;replace HOZ:=Hd (HOZ.out.trans oN (by simp));have HNn:=Hd hN;replace HEm:=Hd (HEm.out.kept oN (by simp));have HSN2:=Hd sN;have HGN:=Hd hgn;refine hK.out _ _ ⟨ab 4 (HOZ.out.heap HBX.out (by simp)),ab 1 (HOZ.out.heap HBX.out (by simp))⟩ (fun hH=>?_);clear hK K oN hN sN hgn;refine rd 5 (fun K hK=>?_);refine aA (by rfl) (.tmp 99) (.tmp 100) (by rfl) (.slice (some ⟨ge,0,none⟩) 0 0) (.slice ua ej.length uc) [] ej (by rfl) HEm.out (by rfl) (HI.out.e.kept HOZ.out (by simp)) (by simp;omega) (fun a5 c5 wc h5 x5=>?_)
          have o5:Only [] wd wc:=HOZ.out.trans x5.only (fun q hq=>.inr (by
           have:=hq;simp [Value.ownBlock] at this
           omega))
          have s5:∀ q,(Value.slice a5 (([]:Env).length+ej.length) c5).ownBlock=some q→wd.heap.size≤q:=fun q hq=>by
           rcases x5.src q hq with e | e
           ·have:=e;simp [Value.ownBlock] at this;omega
           ·exact Nat.le_trans HOZ.out.size e
          replace HNn:=Hd (x5.only.heap HNn.out (by have q1:=HSE.out;have q2:=HGN.out;have q3:=HSN2.out;have q4:=HGE.out;simp [Value.ownBlock];omega));replace HOZ:=Hd o5;simp only [List.length_nil,Nat.zero_add,List.nil_append] at h5 s5⊢;have HA5:=Hd h5;have HS5:=Hd s5;refine hK.out _ _ ⟨ab 4 (HOZ.out.heap HBX.out (by simp)),ab 1 (HOZ.out.heap HBX.out (by simp))⟩ (fun hH=>?_);clear hK K o5 h5 s5 x5 HEm;refine rd 10 (fun K hK=>?_);refine aD (by rfl) (.tmp 101) (.tmp 105) (by rfl) (.slice a5 ej.length c5) ej (by rfl) HA5.out gn 1 (by rfl) (nm,1) (by rw [← HSN.out];exact ab 0 HNn.out) (ab 1 HNn.out) (by omega) (fun a6 c6 wz h6 x6=>?_);have o6:Only [] wd wz:=HOZ.out.trans x6.only (fun q hq=>.inr (HS5.out q (by simpa using hq)));replace HOZ:=Hd o6;have HA6:=Hd h6;refine hK.out _ _ ⟨ab 4 (HOZ.out.heap HBX.out (by simp)),ab 1 (HOZ.out.heap HBX.out (by simp))⟩ (fun hH=>?_);clear hK K o6 h6 x6 HA5 HS5 HNn;refine rd 11 (fun K hK=>?_);go_simp;refine (HI1.out wz lo g _ r3 _ B (ej++[(nm,1)]) _ (HI.out.k.quiet HOZ.out) HWB.out (HV1.out.quiet HOZ.out) HB.out HA6.out (by rw [List.length_append];exact hej1)).mono ?_;rintro en w7 ⟨ve7,v7,rfl,hb7⟩;have hk7:=hb7.k;have ht7:=hb7.t;obtain ⟨r7,hr7⟩:∃ x,x=(ay r3 bd (ej++[(nm,1)])).1:=⟨_,rfl⟩
          have hxr:=HXR3.out;rw [← hr7] at hxr hk7;have hbx7:=ht7.heap (HI.out.k.quiet HOZ.out) (HOZ.out.heap HBX.out (by simp)) (by decide) (by decide);have HVj7:=Hd (kept_ss (HVj.out.quiet HOZ.out) (HI.out.k.quiet HOZ.out) HB.out ht7);have HI7:=Hd ((HI.out.quiet HOZ.out).state hk7 ht7);have HXR4:=Hd hxr;refine hK.out _ _ ⟨ab 4 hbx7,ab 1 hbx7⟩ (fun hH=>?_);clear hK K hb7 hk7 ht7 hr7 hxr hbx7 hH;refine wpAnyH_done (by kernel_rfl) ?_ _;(go_wp2_with fail);refine ⟨⟨j+1,v7,r7,ej,by omega,by simp,HI7,Hd (by rw [HXJ.out,HXR4.out]),HVj7,by omega⟩,?_⟩;simp [intOf];omega
        ·go_simp;obtain ⟨wa,q9,oN,hN,sN⟩:=nb wd (.cells #[.string sn,.int .i64 1] 123);rw [← q9];clear q9;obtain ⟨gn,hgn⟩:∃ gn,gn=wd.heap.size:=⟨_,rfl⟩
         rw [← hgn] at hN sN⊢;replace HOZ:=Hd (HOZ.out.trans oN (by simp));have HNn:=Hd hN
         skip
         have HSN2:=Hd sN;have HGN:=Hd hgn;refine hK.out _ _ ⟨ab 4 (HOZ.out.heap HBX.out (by simp)),ab 1 (HOZ.out.heap HBX.out (by simp))⟩ (fun hH=>?_);clear hK K oN hN sN hgn;refine rd 3 (fun K hK=>?_);go_simp;obtain ⟨wb,q9,oE,-,sE⟩:=nb wa (.cells #[] 123);have hE:=OKn.empty wa;rw [← q9] at hE⊢;clear q9;obtain ⟨ge,hge⟩:∃ ge,ge=wa.heap.size:=⟨_,rfl⟩
         rw [← hge] at hE sE⊢;have hgez:wd.heap.size≤ge:=by rw [hge];exact HOZ.out.size
         replace HOZ:=Hd (HOZ.out.trans oE (by simp));have HEm:=Hd hE;replace HNn:=Hd (oE.heap HNn.out (by simp));have HSE:=Hd sE;have HGE:=Hd hge;refine hK.out _ _ ⟨ab 4 (HOZ.out.heap HBX.out (by simp)),ab 1 (HOZ.out.heap HBX.out (by simp))⟩ (fun hH=>?_);clear hK K oE hE sE hge;refine rd 5 (fun K hK=>?_);refine aA (by rfl) (.tmp 99) (.tmp 100) (by rfl) (.slice (some ⟨ge,0,none⟩) 0 0) (.slice ua ej.length uc) [] ej (by rfl) HEm.out (by rfl) (HI.out.e.kept HOZ.out (by simp)) (by simp;omega) (fun a5 c5 wc h5 x5=>?_)
         have o5:Only [] wd wc:=HOZ.out.trans x5.only (fun q hq=>.inr (by
          have:=hq;simp [Value.ownBlock] at this
          omega))
         have s5:∀ q,(Value.slice a5 (([]:Env).length+ej.length) c5).ownBlock=some q→wd.heap.size≤q:=fun q hq=>by
          rcases x5.src q hq with e | e
          ·have:=e;simp [Value.ownBlock] at this;omega
          ·exact Nat.le_trans HOZ.out.size e
         replace HNn:=Hd (x5.only.heap HNn.out (by have q1:=HSE.out;have q2:=HGN.out;have q3:=HSN2.out;have q4:=HGE.out;simp [Value.ownBlock];omega));replace HOZ:=Hd o5;simp only [List.length_nil,Nat.zero_add,List.nil_append] at h5 s5⊢;have HA5:=Hd h5;have HS5:=Hd s5;refine hK.out _ _ ⟨ab 4 (HOZ.out.heap HBX.out (by simp)),ab 1 (HOZ.out.heap HBX.out (by simp))⟩ (fun hH=>?_);clear hK K o5 h5 s5 x5 HEm;refine rd 10 (fun K hK=>?_);refine aD (by rfl) (.tmp 101) (.tmp 105) (by rfl) (.slice a5 ej.length c5) ej (by rfl) HA5.out gn 1 (by rfl) (nm,1) (by rw [← HSN.out];exact ab 0 HNn.out) (ab 1 HNn.out) (by omega) (fun a6 c6 wz h6 x6=>?_);have o6:Only [] wd wz:=HOZ.out.trans x6.only (fun q hq=>.inr (HS5.out q (by simpa using hq)));replace HOZ:=Hd o6;have HA6:=Hd h6;refine hK.out _ _ ⟨ab 4 (HOZ.out.heap HBX.out (by simp)),ab 1 (HOZ.out.heap HBX.out (by simp))⟩ (fun hH=>?_);clear hK K o6 h6 x6 HA5 HS5 HNn;refine rd 11 (fun K hK=>?_);go_simp;refine (HI1.out wz lo g _ r3 _ B (ej++[(nm,1)]) _ (HI.out.k.quiet HOZ.out) HWB.out (HV1.out.quiet HOZ.out) HB.out HA6.out (by rw [List.length_append];exact hej1)).mono ?_;rintro en w7 ⟨ve7,v7,rfl,hb7⟩;have hk7:=hb7.k;have ht7:=hb7.t;obtain ⟨r7,hr7⟩:∃ x,x=(ay r3 bd (ej++[(nm,1)])).1:=⟨_,rfl⟩
         have hxr:=HXR3.out;rw [← hr7] at hxr hk7;have hbx7:=ht7.heap (HI.out.k.quiet HOZ.out) (HOZ.out.heap HBX.out (by simp)) (by decide) (by decide);have HVj7:=Hd (kept_ss (HVj.out.quiet HOZ.out) (HI.out.k.quiet HOZ.out) HB.out ht7);have HI7:=Hd ((HI.out.quiet HOZ.out).state hk7 ht7);have HXR4:=Hd hxr;refine hK.out _ _ ⟨ab 4 hbx7,ab 1 hbx7⟩ (fun hH=>?_);clear hK K hb7 hk7 ht7 hr7 hxr hbx7 hH;refine wpAnyH_done (by kernel_rfl) ?_ _;(go_wp2_with fail);refine ⟨⟨j+1,v7,r7,ej,by omega,by simp,HI7,Hd (by rw [HXJ.out,HXR4.out]),HVj7,by omega⟩,?_⟩;simp [intOf];omega
       ·have hxr:=HXR2.out;rw [if_neg h64] at hxr;obtain ⟨r3,hr3⟩:∃ r3,r3=r2:=⟨_,rfl⟩
        rw [← hr3] at hxr HI;have HXR3:=Hd hxr;clear hxr hr3 HXR2;(go_upto_region 22 with (fail));have oD:Only [] w5 w5.drew:=(Only.refl [] w5).drew;refine wp_region_held_drew (S:=fun w'=>w'.cell? ⟨gb,4,none⟩=some (.slice a1 L1 c1)∧w'.cell? ⟨gb,1,none⟩=some (.string sn)) (by kernel_rfl) ⟨ae oD (ab 4 HBX.out) (by simp),ae oD (ab 1 HBX.out) (by simp)⟩ (fun hH=>?_);replace HI:=Hd (HI.out.quiet oD);replace HVj:=Hd (HVj.out.quiet oD);replace HV1:=Hd (HV1.out.quiet oD);replace HBX:=Hd (oD.heap HBX.out (by simp));clear oD HV0 HV2;generalize w5.drew=wd at HI HVj HV1 HBX hH⊢;have HOZ:=Hd (Only.refl [] wd);refine tk 0 hH ?_;refine tk 1 hH ?_;refine tk 2 hH ?_;refine tk 4 hH ?_;refine tk 6 hH ?_;refine tk 7 hH ?_;refine tk 8 hH ?_;refine wpAnyH_ready (rs:=[3,9]) (by kernel_rfl) (by simp) ?_;refine bU rfl rfl (fun K hK=>?_) (fun K hK=>?_)
        ·go_simp;obtain ⟨wa,q9,oE,-,sE⟩:=nb wd (.cells #[] 123);have hE:=OKn.empty wd;rw [← q9] at hE⊢;clear q9;obtain ⟨ge,hge⟩:∃ ge,ge=wd.heap.size:=⟨_,rfl⟩
         rw [← hge] at hE sE⊢;have hgez:wd.heap.size≤ge:=by rw [hge];exact HOZ.out.size
         replace HOZ:=Hd (HOZ.out.trans oE (by simp));have HEm:=Hd hE
         skip
         have HSE:=Hd sE;have HGE:=Hd hge;refine hK.out _ _ ⟨ab 4 (HOZ.out.heap HBX.out (by simp)),ab 1 (HOZ.out.heap HBX.out (by simp))⟩ (fun hH=>?_);clear hK K oE hE sE hge;refine wpAnyH_ready (rs:=[5,9]) (by kernel_rfl) (by simp) ?_;refine bU rfl rfl (fun K hK=>?_) (fun K hK=>?_)
         ·skip
          refine aA (by rfl) (.tmp 99) (.tmp 100) (by rfl) (.slice (some ⟨ge,0,none⟩) 0 0) (.slice ua ej.length uc) [] ej (by rfl) HEm.out (by rfl) (HI.out.e.kept HOZ.out (by simp)) (by simp;omega) (fun a5 c5 wb h5 x5=>?_)
          have o5:Only [] wd wb:=HOZ.out.trans x5.only (fun q hq=>.inr (by
           have:=hq;simp [Value.ownBlock] at this
           omega))
          have s5:∀ q,(Value.slice a5 (([]:Env).length+ej.length) c5).ownBlock=some q→wd.heap.size≤q:=fun q hq=>by
           rcases x5.src q hq with e | e
           ·have:=e;simp [Value.ownBlock] at this;omega
           ·exact Nat.le_trans HOZ.out.size e
          skip
          replace HOZ:=Hd o5;simp only [List.length_nil,Nat.zero_add,List.nil_append] at h5 s5⊢;have HA5:=Hd h5;have HS5:=Hd s5;refine hK.out _ _ ⟨ab 4 (HOZ.out.heap HBX.out (by simp)),ab 1 (HOZ.out.heap HBX.out (by simp))⟩ (fun hH=>?_);clear hK K o5 h5 s5 x5 HEm;refine rd 9 (fun K hK=>?_);go_simp;obtain ⟨wc,q9,oN,hN,sN⟩:=nb wb (.cells #[.string sn,.int .i64 1] 123);rw [← q9];clear q9;obtain ⟨gn,hgn⟩:∃ gn,gn=wb.heap.size:=⟨_,rfl⟩
          rw [← hgn] at hN sN⊢;replace HOZ:=Hd (HOZ.out.trans oN (by simp));have HNn:=Hd hN;replace HA5:=Hd (HA5.out.kept oN (by simp));have HSN2:=Hd sN;have HGN:=Hd hgn;refine hK.out _ _ ⟨ab 4 (HOZ.out.heap HBX.out (by simp)),ab 1 (HOZ.out.heap HBX.out (by simp))⟩ (fun hH=>?_);clear hK K oN hN sN hgn;refine rd 10 (fun K hK=>?_);refine aD (by rfl) (.tmp 101) (.tmp 105) (by rfl) (.slice a5 ej.length c5) ej (by rfl) HA5.out gn 1 (by rfl) (nm,1) (by rw [← HSN.out];exact ab 0 HNn.out) (ab 1 HNn.out) (by omega) (fun a6 c6 wz h6 x6=>?_);have o6:Only [] wd wz:=HOZ.out.trans x6.only (fun q hq=>.inr (HS5.out q (by simpa using hq)));replace HOZ:=Hd o6;have HA6:=Hd h6;refine hK.out _ _ ⟨ab 4 (HOZ.out.heap HBX.out (by simp)),ab 1 (HOZ.out.heap HBX.out (by simp))⟩ (fun hH=>?_);clear hK K o6 h6 x6 HA5 HS5 HNn;refine rd 11 (fun K hK=>?_);go_simp;refine (HI1.out wz lo g _ r3 _ B (ej++[(nm,1)]) _ (HI.out.k.quiet HOZ.out) HWB.out (HV1.out.quiet HOZ.out) HB.out HA6.out (by rw [List.length_append];exact hej1)).mono ?_;rintro en w7 ⟨ve7,v7,rfl,hb7⟩;have hk7:=hb7.k;have ht7:=hb7.t;obtain ⟨r7,hr7⟩:∃ x,x=(ay r3 bd (ej++[(nm,1)])).1:=⟨_,rfl⟩
          have hxr:=HXR3.out;rw [← hr7] at hxr hk7;have hbx7:=ht7.heap (HI.out.k.quiet HOZ.out) (HOZ.out.heap HBX.out (by simp)) (by decide) (by decide);have HVj7:=Hd (kept_ss (HVj.out.quiet HOZ.out) (HI.out.k.quiet HOZ.out) HB.out ht7);have HI7:=Hd ((HI.out.quiet HOZ.out).state hk7 ht7);have HXR4:=Hd hxr;refine hK.out _ _ ⟨ab 4 hbx7,ab 1 hbx7⟩ (fun hH=>?_);clear hK K hb7 hk7 ht7 hr7 hxr hbx7 hH;refine wpAnyH_done (by kernel_rfl) ?_ _;(go_wp2_with fail);refine ⟨⟨j+1,v7,r7,ej,by omega,by simp,HI7,Hd (by rw [HXJ.out,HXR4.out]),HVj7,by omega⟩,?_⟩;simp [intOf];omega
         ·go_simp;obtain ⟨wb,q9,oN,hN,sN⟩:=nb wa (.cells #[.string sn,.int .i64 1] 123);rw [← q9];clear q9;obtain ⟨gn,hgn⟩:∃ gn,gn=wa.heap.size:=⟨_,rfl⟩
          rw [← hgn] at hN sN⊢;replace HOZ:=Hd (HOZ.out.trans oN (by simp));have HNn:=Hd hN;replace HEm:=Hd (HEm.out.kept oN (by simp));have HSN2:=Hd sN;have HGN:=Hd hgn;refine hK.out _ _ ⟨ab 4 (HOZ.out.heap HBX.out (by simp)),ab 1 (HOZ.out.heap HBX.out (by simp))⟩ (fun hH=>?_);clear hK K oN hN sN hgn;refine rd 5 (fun K hK=>?_);refine aA (by rfl) (.tmp 99) (.tmp 100) (by rfl) (.slice (some ⟨ge,0,none⟩) 0 0) (.slice ua ej.length uc) [] ej (by rfl) HEm.out (by rfl) (HI.out.e.kept HOZ.out (by simp)) (by simp;omega) (fun a5 c5 wc h5 x5=>?_)
          have o5:Only [] wd wc:=HOZ.out.trans x5.only (fun q hq=>.inr (by
           have:=hq;simp [Value.ownBlock] at this
           omega))
          have s5:∀ q,(Value.slice a5 (([]:Env).length+ej.length) c5).ownBlock=some q→wd.heap.size≤q:=fun q hq=>by
           rcases x5.src q hq with e | e
           ·have:=e;simp [Value.ownBlock] at this;omega
           ·exact Nat.le_trans HOZ.out.size e
          replace HNn:=Hd (x5.only.heap HNn.out (by have q1:=HSE.out;have q2:=HGN.out;have q3:=HSN2.out;have q4:=HGE.out;simp [Value.ownBlock];omega));replace HOZ:=Hd o5;simp only [List.length_nil,Nat.zero_add,List.nil_append] at h5 s5⊢;have HA5:=Hd h5;have HS5:=Hd s5;refine hK.out _ _ ⟨ab 4 (HOZ.out.heap HBX.out (by simp)),ab 1 (HOZ.out.heap HBX.out (by simp))⟩ (fun hH=>?_);clear hK K o5 h5 s5 x5 HEm;refine rd 10 (fun K hK=>?_);refine aD (by rfl) (.tmp 101) (.tmp 105) (by rfl) (.slice a5 ej.length c5) ej (by rfl) HA5.out gn 1 (by rfl) (nm,1) (by rw [← HSN.out];exact ab 0 HNn.out) (ab 1 HNn.out) (by omega) (fun a6 c6 wz h6 x6=>?_);have o6:Only [] wd wz:=HOZ.out.trans x6.only (fun q hq=>.inr (HS5.out q (by simpa using hq)));replace HOZ:=Hd o6;have HA6:=Hd h6;refine hK.out _ _ ⟨ab 4 (HOZ.out.heap HBX.out (by simp)),ab 1 (HOZ.out.heap HBX.out (by simp))⟩ (fun hH=>?_);clear hK K o6 h6 x6 HA5 HS5 HNn;refine rd 11 (fun K hK=>?_);go_simp;refine (HI1.out wz lo g _ r3 _ B (ej++[(nm,1)]) _ (HI.out.k.quiet HOZ.out) HWB.out (HV1.out.quiet HOZ.out) HB.out HA6.out (by rw [List.length_append];exact hej1)).mono ?_;rintro en w7 ⟨ve7,v7,rfl,hb7⟩;have hk7:=hb7.k;have ht7:=hb7.t;obtain ⟨r7,hr7⟩:∃ x,x=(ay r3 bd (ej++[(nm,1)])).1:=⟨_,rfl⟩
          have hxr:=HXR3.out;rw [← hr7] at hxr hk7;have hbx7:=ht7.heap (HI.out.k.quiet HOZ.out) (HOZ.out.heap HBX.out (by simp)) (by decide) (by decide);have HVj7:=Hd (kept_ss (HVj.out.quiet HOZ.out) (HI.out.k.quiet HOZ.out) HB.out ht7);have HI7:=Hd ((HI.out.quiet HOZ.out).state hk7 ht7);have HXR4:=Hd hxr;refine hK.out _ _ ⟨ab 4 hbx7,ab 1 hbx7⟩ (fun hH=>?_);clear hK K hb7 hk7 ht7 hr7 hxr hbx7 hH;refine wpAnyH_done (by kernel_rfl) ?_ _;(go_wp2_with fail);refine ⟨⟨j+1,v7,r7,ej,by omega,by simp,HI7,Hd (by rw [HXJ.out,HXR4.out]),HVj7,by omega⟩,?_⟩;simp [intOf];omega
        ·go_simp;obtain ⟨wa,q9,oN,hN,sN⟩:=nb wd (.cells #[.string sn,.int .i64 1] 123);rw [← q9];clear q9;obtain ⟨gn,hgn⟩:∃ gn,gn=wd.heap.size:=⟨_,rfl⟩
         rw [← hgn] at hN sN⊢;replace HOZ:=Hd (HOZ.out.trans oN (by simp));have HNn:=Hd hN
         skip
         have HSN2:=Hd sN;have HGN:=Hd hgn;refine hK.out _ _ ⟨ab 4 (HOZ.out.heap HBX.out (by simp)),ab 1 (HOZ.out.heap HBX.out (by simp))⟩ (fun hH=>?_);clear hK K oN hN sN hgn;refine rd 3 (fun K hK=>?_);go_simp;obtain ⟨wb,q9,oE,-,sE⟩:=nb wa (.cells #[] 123);have hE:=OKn.empty wa;rw [← q9] at hE⊢;clear q9;obtain ⟨ge,hge⟩:∃ ge,ge=wa.heap.size:=⟨_,rfl⟩
         rw [← hge] at hE sE⊢;have hgez:wd.heap.size≤ge:=by rw [hge];exact HOZ.out.size
         replace HOZ:=Hd (HOZ.out.trans oE (by simp));have HEm:=Hd hE;replace HNn:=Hd (oE.heap HNn.out (by simp));have HSE:=Hd sE;have HGE:=Hd hge;refine hK.out _ _ ⟨ab 4 (HOZ.out.heap HBX.out (by simp)),ab 1 (HOZ.out.heap HBX.out (by simp))⟩ (fun hH=>?_);clear hK K oE hE sE hge;refine rd 5 (fun K hK=>?_);refine aA (by rfl) (.tmp 99) (.tmp 100) (by rfl) (.slice (some ⟨ge,0,none⟩) 0 0) (.slice ua ej.length uc) [] ej (by rfl) HEm.out (by rfl) (HI.out.e.kept HOZ.out (by simp)) (by simp;omega) (fun a5 c5 wc h5 x5=>?_)
         have o5:Only [] wd wc:=HOZ.out.trans x5.only (fun q hq=>.inr (by
          have:=hq;simp [Value.ownBlock] at this
          omega))
         have s5:∀ q,(Value.slice a5 (([]:Env).length+ej.length) c5).ownBlock=some q→wd.heap.size≤q:=fun q hq=>by
          rcases x5.src q hq with e | e
          ·have:=e;simp [Value.ownBlock] at this;omega
          ·exact Nat.le_trans HOZ.out.size e
         replace HNn:=Hd (x5.only.heap HNn.out (by have q1:=HSE.out;have q2:=HGN.out;have q3:=HSN2.out;have q4:=HGE.out;simp [Value.ownBlock];omega));replace HOZ:=Hd o5;simp only [List.length_nil,Nat.zero_add,List.nil_append] at h5 s5⊢;have HA5:=Hd h5;have HS5:=Hd s5;refine hK.out _ _ ⟨ab 4 (HOZ.out.heap HBX.out (by simp)),ab 1 (HOZ.out.heap HBX.out (by simp))⟩ (fun hH=>?_);clear hK K o5 h5 s5 x5 HEm;refine rd 10 (fun K hK=>?_);refine aD (by rfl) (.tmp 101) (.tmp 105) (by rfl) (.slice a5 ej.length c5) ej (by rfl) HA5.out gn 1 (by rfl) (nm,1) (by rw [← HSN.out];exact ab 0 HNn.out) (ab 1 HNn.out) (by omega) (fun a6 c6 wz h6 x6=>?_);have o6:Only [] wd wz:=HOZ.out.trans x6.only (fun q hq=>.inr (HS5.out q (by simpa using hq)));replace HOZ:=Hd o6;have HA6:=Hd h6;refine hK.out _ _ ⟨ab 4 (HOZ.out.heap HBX.out (by simp)),ab 1 (HOZ.out.heap HBX.out (by simp))⟩ (fun hH=>?_);clear hK K o6 h6 x6 HA5 HS5 HNn;refine rd 11 (fun K hK=>?_);go_simp;refine (HI1.out wz lo g _ r3 _ B (ej++[(nm,1)]) _ (HI.out.k.quiet HOZ.out) HWB.out (HV1.out.quiet HOZ.out) HB.out HA6.out (by rw [List.length_append];exact hej1)).mono ?_;rintro en w7 ⟨ve7,v7,rfl,hb7⟩;have hk7:=hb7.k;have ht7:=hb7.t;obtain ⟨r7,hr7⟩:∃ x,x=(ay r3 bd (ej++[(nm,1)])).1:=⟨_,rfl⟩
         have hxr:=HXR3.out;rw [← hr7] at hxr hk7;have hbx7:=ht7.heap (HI.out.k.quiet HOZ.out) (HOZ.out.heap HBX.out (by simp)) (by decide) (by decide);have HVj7:=Hd (kept_ss (HVj.out.quiet HOZ.out) (HI.out.k.quiet HOZ.out) HB.out ht7);have HI7:=Hd ((HI.out.quiet HOZ.out).state hk7 ht7);have HXR4:=Hd hxr;refine hK.out _ _ ⟨ab 4 hbx7,ab 1 hbx7⟩ (fun hH=>?_);clear hK K hb7 hk7 ht7 hr7 hxr hbx7 hH;refine wpAnyH_done (by kernel_rfl) ?_ _;(go_wp2_with fail);refine ⟨⟨j+1,v7,r7,ej,by omega,by simp,HI7,Hd (by rw [HXJ.out,HXR4.out]),HVj7,by omega⟩,?_⟩;simp [intOf];omega
     ·rw [if_neg h78] at HXR;have h7':(k == 7)=false:=by simp only [beq_eq_false_iff_ne];exact fun e=>h78 (.inl e)
      have h8':(k == 8)=false:=by simp only [beq_eq_false_iff_ne];exact fun e=>h78 (.inr e)
      have hL:L0=2:=by rcases HKS.out with h | h | h<;>omega
      subst hL;obtain ⟨-,gq,k',nn',nm',zs,p',a',c',haq,hq0,z0,z1,z2,z3,z4,hv'⟩:=HV0.out.elem (j:=0) (by omega);cases haq;simp only [Nat.zero_mul,Nat.zero_add,Nat.one_mul,Nat.reduceMul,Nat.reduceAdd] at z0 z1 z2 z3 z4;have hwz:=fA HWX.out hq0;have hsq:=bu hq0;obtain ⟨e',hee⟩:∃ e',e'=E.mk k' nn' nm' zs p':=⟨_,rfl⟩
      obtain ⟨sn',hsn'⟩:∃ s,s=ai nm':=⟨_,rfl⟩
      obtain ⟨L,hL⟩:∃ L,L=zs.length:=⟨_,rfl⟩
      have hev:EV w1 B e' [.int .i64 k',.int .i64 nn',.string sn',.slice a' L c',.int .i64 p']:=by rw [hee,hsn',hL];exact EV.mk' hv'
      rw [← hee] at hsq hq0;rw [← hsn'] at z2;rw [← hL] at z3;obtain ⟨f',hf⟩:∃ f',ys=[e',f']:=by
       have hl:=HL0.out
       match ys,hl,hq0 with
       | [y,z],_,hq0=>exact ⟨z,by simpa using hq0⟩
      have hxr:=HXR.out;rw [hf] at hxr;dsimp only at hxr;obtain ⟨r2,hr2⟩:∃ r2,r2=bp rj e' 1 ej:=⟨_,rfl⟩
      have K1:=eT HI.out.k hev (by omega) HB.out HI.out.e (by omega) 1;rw [← hr2] at K1 hxr;have HXR2:=Hd hxr;have HF:=Hd hf;have y2:w1.cell? ⟨gb,2,none⟩=some (.slice (some ⟨gq,0,none⟩) 2 c0):=ab 2 HBX.out;clear hwz hsq hee hsn' hL hev hxr hr2 hq0 hv' HXR h1 h6 h78 hf;(go_wp2_with fail);refine K1.mono ?_;rintro en w5 ⟨rfl,v5,hk5,ht5⟩;have hbxN:=ht5.heap HI.out.k HBX.out (by decide) (by decide);replace HVj:=Hd (kept_ss HVj.out HI.out.k HB.out ht5);replace HV0:=Hd (kept_es HV0.out HI.out.k HB.out ht5);replace HV1:=Hd (kept_ss HV1.out HI.out.k HB.out ht5);replace HV2:=Hd (kept_ss HV2.out HI.out.k HB.out ht5);replace HBX:=Hd hbxN;replace HI:=Hd (HI.out.state hk5 ht5);clear hbxN hk5 ht5;clear K1 y2 z0 z1 z2 z3 z4;obtain ⟨-,gq2,k',nn',nm',zs,p',a',c',haq,hq0,z0,z1,z2,z3,z4,hv'⟩:=HV0.out.elem (j:=1) (by omega);injection haq with haq
      injection haq with haq _ _
      subst haq;simp only [Nat.one_mul,Nat.reduceAdd] at z0 z1 z2 z3 z4;have hsq:=bu hq0;rw [HF.out] at hq0;have hee:f'=E.mk k' nn' nm' zs p':=by simpa using hq0
      obtain ⟨sn',hsn'⟩:∃ s,s=ai nm':=⟨_,rfl⟩
      obtain ⟨L,hL⟩:∃ L,L=zs.length:=⟨_,rfl⟩
      have hev:EV w5 B f' [.int .i64 k',.int .i64 nn',.string sn',.slice a' L c',.int .i64 p']:=by rw [hee,hsn',hL];exact EV.mk' hv'
      rw [← hee] at hsq;rw [← hsn'] at z2;rw [← hL] at z3;obtain ⟨r3,hr3⟩:∃ r3,r3=bp r2 f' 1 ej:=⟨_,rfl⟩
      have K2:=eT HI.out.k hev (by omega) HB.out HI.out.e (by omega) 1;have hxr:=HXR2.out;rw [← hr3] at K2 hxr;have HXR3:=Hd hxr;have y2:w5.cell? ⟨gb,2,none⟩=some (.slice (some ⟨gq,0,none⟩) 2 c0):=ab 2 HBX.out;clear hsq hee hsn' hL hev hxr hr3 hq0 hv' HXR2;(go_wp2_with fail);refine K2.mono ?_;rintro en w6 ⟨rfl,v6,hk6,ht6⟩;have hbxN:=ht6.heap HI.out.k HBX.out (by decide) (by decide);replace HVj:=Hd (kept_ss HVj.out HI.out.k HB.out ht6);replace HV0:=Hd (kept_es HV0.out HI.out.k HB.out ht6);replace HV1:=Hd (kept_ss HV1.out HI.out.k HB.out ht6);replace HV2:=Hd (kept_ss HV2.out HI.out.k HB.out ht6);replace HBX:=Hd hbxN;replace HI:=Hd (HI.out.state hk6 ht6);clear hbxN hk6 ht6;clear K2 y2 z0 z1 z2 z3 z4;(go_wp2_with fail);refine ⟨⟨j+1,v6,r3,ej,by omega,by simp,HI,Hd (by rw [HXJ.out,HXR3.out]),HVj,by omega⟩,?_⟩;simp [intOf];omega
  ·obtain rfl:j=n:=by omega
   have hge:¬ (j:Int) < (j:Int):=by omega
   have hXX:X=(rj,ej):=by rw [HXj.out,HN.out,List.drop_length];unfold ay;rfl
   have HXX:=Hd hXX;clear hXX;(go_wp2_with fail);go_ret;exact ⟨_,vj,rfl,by rw [HXX.out];exact HI.out⟩
theorem tJ (N:Nat) (hN:N≤1000000):CBlkP N:=by
 induction N using Nat.strongRecOn with
 | _ N ih=>exact qi N hN (fun M hM=>ih M hM (by omega))
end Go.Proofs.YtheanmadognhbaaGreatDoor
