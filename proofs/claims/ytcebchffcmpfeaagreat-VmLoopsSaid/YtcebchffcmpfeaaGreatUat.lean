import Derived.Test.YtcebchffcmpfeaaGreatHat
namespace Go.Proofs.YtcebchffcmpfeaaGreat
set_option linter.unusedVariables false
set_option linter.unusedSimpArgs false
set_option maxRecDepth 100000
set_option maxHeartbeats 16000000
open Go.RowKit Go.Maps
theorem kt:∀ (l:List Dc) (i k:Nat) (p:Int),(tZ l i k p=k∧∀ y∈l,p≤y.2.1)∨∃ m x,l[m]?=some x∧tZ l i k p=i+m∧x.2.1 < p∧∀ y∈l,x.2.1≤y.2.1
 | [],_,_,_=>.inl ⟨by unfold tZ;rfl,fun y hy=>by simp at hy⟩
 | x :: xs,i,k,p=>by
  unfold tZ
  by_cases h:x.2.1 < p
  ·rw [if_pos h];rcases kt xs (i+1) i x.2.1 with ⟨h1,h2⟩ | ⟨m,z,h1,h2,h3,h4⟩
   ·refine .inr ⟨0,x,rfl,h1,h,fun y hy=>?_⟩;rcases List.mem_cons.1 hy with rfl | hy
    ·omega
    ·exact h2 y hy
   ·refine .inr ⟨m+1,z,by simpa using h1,by rw [h2];omega,by omega,fun y hy=>?_⟩;rcases List.mem_cons.1 hy with rfl | hy
    ·omega
    ·exact h4 y hy
  ·rw [if_neg h];rcases kt xs (i+1) k p with ⟨h1,h2⟩ | ⟨m,z,h1,h2,h3,h4⟩
   ·refine .inl ⟨h1,fun y hy=>?_⟩;rcases List.mem_cons.1 hy with rfl | hy
    ·omega
    ·exact h2 y hy
   ·refine .inr ⟨m+1,z,by simpa using h1,by rw [h2];omega,h3,fun y hy=>?_⟩;rcases List.mem_cons.1 hy with rfl | hy
    ·omega
    ·exact h4 y hy
theorem xA {l:List Dc} (h:l≠[]):∃ x,l[minK l]?=some x∧∀ y∈l,x.2.1≤y.2.1:=by
 cases l with
 | nil=>exact absurd rfl h
 | cons x xs=>
  show ∃ z,(x :: xs)[tZ xs 1 0 x.2.1]?=some z∧_;rcases kt xs 1 0 x.2.1 with ⟨h1,h2⟩ | ⟨m,z,h1,h2,h3,h4⟩
  ·refine ⟨x,by rw [h1];rfl,fun y hy=>?_⟩;rcases List.mem_cons.1 hy with rfl | hy
   ·exact Int.le_refl _
   ·exact h2 y hy
  ·refine ⟨z,by rw [h2,Nat.add_comm];simpa using h1,fun y hy=>?_⟩;rcases List.mem_cons.1 hy with rfl | hy
   ·omega
   ·exact h4 y hy
abbrev LeD (a b:Dc):Prop:=a.2.1≤b.2.1
theorem iK:∀ (f:Nat) (l:List Dc),l.length≤f→(tl f l).Pairwise LeD
 | 0,l,_=>List.Pairwise.nil
 | f+1,l,h=>by
  unfold tl
  by_cases hl:l=[]
  ·subst hl;exact List.Pairwise.nil
  ·have hlt:=wD hl;obtain ⟨x,hx,hm⟩:=xA hl;rw [hx];have hlen:(l.eraseIdx (minK l)).length≤f:=by rw [List.length_eraseIdx_of_lt hlt];omega
   refine List.Pairwise.cons (fun y hy=>hm y ?_) (iK f _ hlen);exact List.mem_of_mem_eraseIdx ((ip f _ hlen).mem_iff.1 hy)
theorem Inc.inj:∀ {l:List Dc},Inc l→∀ a∈l,∀ b∈l,a.2.1=b.2.1→a=b
 | [],_,a,ha,_,_,_=>by simp at ha
 | x :: xs,h,a,ha,b,hb,e=>by
  unfold Inc at h;rcases List.mem_cons.1 ha with ea | ha2<;>rcases List.mem_cons.1 hb with eb | hb2
  ·rw [ea,eb]
  ·rw [ea] at e;have:=h.1 b hb2;omega
  ·rw [eb] at e;have:=h.1 a ha2;omega
  ·exact Inc.inj h.2 a ha2 b hb2 e
theorem xB {l m:List Dc} (ho:∃ l0,Inc l0∧l0.Perm l) (hp:m.Perm l) (hs:m.Pairwise LeD):m=iS l:=by
 obtain ⟨l0,hi,hl⟩:=ho;have hq:m.Perm (iS l):=hp.trans (cN l).symm;refine List.Perm.eq_of_pairwise (fun a b ha hb h1 h2=>?_) hs (iK _ l (Nat.le_refl _)) hq;have e:a.2.1=b.2.1:=Int.le_antisymm h1 h2;exact hi.inj a (hl.mem_iff.2 (hp.mem_iff.1 ha)) b (hl.mem_iff.2 ((cN l).mem_iff.1 hb)) e
theorem cO:aA []=[]:=by unfold aA;rfl
theorem cP (x:St) (xs:List St):aA (x :: xs)=cy x++aA xs:=by conv=>lhs;unfold aA
theorem lz:∀ (xs ys:List St),aA (xs++ys)=aA xs++aA ys
 | [],ys=>by rw [cO];rfl
 | x :: xs,ys=>by rw [List.cons_append,cP,cP,lz xs ys,List.append_assoc]
theorem jd:ndB []=[]:=by unfold ndB;rfl
mutual
theorem decl_ndS:∀ x:St,wS x→pS x→(cy x).map (·.1)=ndS x
 | .mk k nm xs n bd els p,hw,hp=>by
  unfold wS at hw;unfold pS at hp;obtain ⟨hi,-,hx,hb,he⟩:=hw;obtain ⟨p1,p2,p3,p4⟩:=hp;have h1:=je bd hb p3;have h2:=je els he p4;unfold cy;rw [List.map_append,List.map_append,h1,h2];unfold isS at hi
  by_cases k1:k=1
  ·subst k1;obtain rfl:=p1 (by decide);obtain rfl:=p2 (by decide);rw [if_pos (by decide),wt,jd];rfl
  ·by_cases k6:k=6
   ·subst k6;rw [if_neg (by decide),ndS_if];rfl
   ·by_cases k7:k=7∨k=8
    ·obtain rfl:=p1 (by omega);rw [if_pos (by omega),rx k7,jd,List.append_nil];rfl
    ·obtain rfl:=p1 (by omega);obtain rfl:=p2 (by omega);rw [if_neg (by omega),wu (by omega),jd];rfl
theorem je:∀ xs:List St,wB xs→pB xs→(aA xs).map (·.1)=ndB xs
 | [],_,_=>by rw [cO,jd];rfl
 | x :: xs,hw,hp=>by
  unfold wB at hw;unfold pB at hp;rw [cP,List.map_append,decl_ndS x hw.1 hp.1,je xs hw.2 hp.2]
  conv=>rhs;unfold ndB
end
theorem oJ:∀ (l:List Sec) (r:RS),(kD r l).code=0→(kD r l).decl=r.decl++l
 | [],r,_=>by unfold kD;rw [List.append_nil]
 | x :: l,r,h=>by
  have c:=gw l _ h;obtain ⟨-,-,e⟩:=bB c;show (kD (r.declare x 0) l).decl=_;rw [oJ l _ h,e,List.append_assoc];rfl
theorem locN_ok {d:Df} (hw:Whole d) (hp:pB d.body) (hf:(opS CS.new d).flt=none):OkN (eU d):=by
 have hc:=rz hw hf;have h1:=hc.okn;rw [oJ _ _ hc.pars,← je d.body hw.body hp] at h1;refine h1.perm ?_;show ((RS.new.decl++d.params)++_).Perm (d.params++_);exact List.Perm.append_left _ ((cN (aA d.body)).map _).symm
structure Sx where
 k:Int
 nm:Sec
 a0:Option Addr
 l0:Nat
 c0:Nat
 n:Int
 a1:Option Addr
 l1:Nat
 c1:Nat
 a2:Option Addr
 l2:Nat
 c2:Nat
 p:Int
def Sx.en (x:Sx):List Value:=[.int .i64 x.k,.string (aj x.nm),.slice x.a0 x.l0 x.c0,.int .i64 x.n,.slice x.a1 x.l1 x.c1,.slice x.a2 x.l2 x.c2,.int .i64 x.p]
def Sx.dc (x:Sx):Dc:=(x.nm,x.p,x.k)
def rS:RowT Sx:=⟨113,58,7,Sx.en,.agg #[.int .i64 0,.string ⟨#[]⟩,.slice none 0 0,.int .i64 0,.slice none 0 0,.slice none 0 0,.int .i64 0],112,Tryz.underlying58,by kernel_rfl,rfl,by omega,by omega,fun _=>rfl,fun x u hu=>by simp [Sx.en] at hu;rcases hu with rfl | rfl | rfl | rfl | rfl | rfl | rfl<;>rfl⟩
theorem fe {w:World} {g i:Nat} {v:Value} (h:w.cell? ⟨g,i,none⟩=some v):g < w.heap.size:=by
 rcases Nat.lt_or_ge g w.heap.size with h1 | h1
 ·exact h1
 ·exfalso;unfold World.cell? at h;rw [show w.heap[g]?=none from Array.getElem?_eq_none h1] at h;simp at h
theorem SsV.quietG {w0 w:World} {B:Nat→Prop} {v:Value} {l:List St} (ho:Only [] w0 w) (h:SsV w0 B v l):SsV w B v l:=h.quiet ho
mutual
theorem tL:∀ x:St,(cy x).length≤bn x
 | .mk k nm xs n bd els p=>by
  have h1:=aY bd;have h2:=aY els;unfold cy bn;rw [List.length_append,List.length_append];split
  ·rw [List.length_singleton];omega
  ·rw [List.length_nil];omega
theorem aY:∀ xs:List St,(aA xs).length≤ah xs
 | []=>by rw [cO];simp
 | x :: xs=>by
  have h1:=tL x;have h2:=aY xs;rw [cP,List.length_append,fE];omega
end
theorem tM {xs:List St} {j:Nat} {x:St} (h:xs[j]?=some x):aA (xs.take (j+1))=aA (xs.take j)++cy x:=by
 rw [List.take_add_one,h,Option.toList_some,lz,cP,cO,List.append_nil]
theorem bnd1 {N n m a b:Nat} (h1:a < N∧b < N) (h2:N≤100000) (h3:n≤100001) (h4:m≤a):n+m≤1048576:=by omega
theorem bnd2 {N n m k a b:Nat} (h1:a < N∧b < N) (h2:N≤100000) (h3:n≤100001) (h4:m≤a) (h5:k≤b):n+m+k≤1048576:=by omega
def DePost (w:World) (r:List Dc) (en:Ending) (w':World):Prop:=∃ v ts,en=.returned v∧OR rS w' w.heap.size v ts∧ts.map Sx.dc=r∧Only [] w w'
def DeP (N:Nat):Prop:=∀ xs:List St,ah xs≤N→∀ (w:World) (v:Value) (B:Nat→Prop),SsV w B v xs→Calls Tryz.prog 66 #[v] w (DePost w (aA xs))
theorem OR.ownU {α:Type} {R:RowT α} {w w1 w2:World} {v v':Value} {l:List α} (ho:Only [] w w1) (h:OR R w1 w.heap.size v l) (x:Ext w1 v w2 v'):Only [] w w2:=
 ho.trans x.only (fun k hk=>.inr (h.lt (k:=k) (by simpa using hk)).1)
theorem mB (N:Nat) (hNN:N≤100000) (IS:∀ M,M < N→DeP M):DeP N:=by
 intro xs hN w v B hv;have hvl:SsV w (fun b=>B b∧b < w.heap.size) v xs:=hv.lt;obtain ⟨a,cap,rfl,-⟩:=id hv;obtain ⟨n,hn⟩:∃ n,n=xs.length:=⟨_,rfl⟩
 rw [← hn] at hvl⊢;have HV:=Hd hvl;have HN:=Hd hn;have HNS:=Hd hN;have HIS:=Hd IS;have hnb:n≤100000:=by have:=cI xs;omega
 obtain ⟨RG,hRG⟩:∃ R,R=aA xs:=⟨_,rfl⟩
 rw [← hRG];have HRG:=Hd hRG;clear hv hvl hn hRG hN IS
 go_enter Tryz.func66,Tryz.ntmps66
 go_wp2_with fail
 go_loopw [3,8] (fun s3 ix wr=>∃ (j:Nat) (va:Option Addr) (N0 vc:Nat) (l0:List Sx),j≤n∧ix=.int .i64 (j:Int)∧s3=.slice va N0 vc∧Hid (N0=l0.length)∧Hid (OR rS wr w.heap.size s3 l0)∧Hid (l0.map Sx.dc=aA (xs.take j))∧Hid (Only [] w wr)) (fun _ ix _=>n - (intOf ix).toNat)
 case atStart=>exact ⟨0,none,0,0,[],Nat.zero_le _,rfl,rfl,Hd rfl,Hd (OR.nil _ _),Hd (by rw [List.take_zero,cO];rfl),Hd (Only.refl _ _)⟩
 case round=>
  obtain ⟨j,va,N0,vc,l0,hjn,rfl,rfl,HN0,HVJ,HL0,HO⟩:=hrel;have HLB:=Hd (show N0≤100000 by have h1:=aY (xs.take j);have h2:=dv xs j;have h3:=HNS.out;have h4:=HN0.out;have h5:=congrArg List.length HL0.out;rw [List.length_map] at h5;omega)
  by_cases hlt:j < n
  ·have hlt':(j:Int) < (n:Int):=by omega
   have j0:(0:Int)≤(j:Int):=by omega
   obtain ⟨-,gr,k,nm,ys,nn,bd,els,p,a0,c0,a1,c1,a2,c2,rfl,he,x0,x1,x2,x3,x4,x5,x6,hv0,hv1,hv2⟩:=HV.out.elem hlt;have hgr:gr < w.heap.size:=fe x0;replace x0:=ac HO.out x0 (by simp);replace x1:=ac HO.out x1 (by simp);replace x2:=ac HO.out x2 (by simp);replace x3:=ac HO.out x3 (by simp);replace x4:=ac HO.out x4 (by simp);replace x5:=ac HO.out x5 (by simp);replace x6:=ac HO.out x6 (by simp);have hTK:=tM he;rw [← HL0.out] at hTK;have hsm:=eM he;rw [f9] at hsm;have HSZ:=Hd (show ah bd < N∧ah els < N by have:=HNS.out;omega);obtain ⟨L0,hL0⟩:∃ L,L=ys.length:=⟨_,rfl⟩
   obtain ⟨L1,hL1⟩:∃ L,L=bd.length:=⟨_,rfl⟩
   obtain ⟨L2,hL2⟩:∃ L,L=els.length:=⟨_,rfl⟩
   rw [← hL0] at x2 hv0;rw [← hL1] at x4 hv1;rw [← hL2] at x5 hv2;obtain ⟨sx,hsx⟩:∃ s:Sx,s=⟨k,nm,a0,L0,c0,nn,a1,L1,c1,a2,L2,c2,p⟩:=⟨_,rfl⟩
   obtain ⟨sn,hsn⟩:∃ sn,sn=aj nm:=⟨_,rfl⟩
   have HEN:=Hd (show Sx.en sx=[.int .i64 k,.string sn,.slice a0 L0 c0,.int .i64 nn,.slice a1 L1 c1,.slice a2 L2 c2,.int .i64 p] by rw [hsx,hsn];rfl);have HDC:=Hd (show Sx.dc sx=(nm,p,k) by rw [hsx];rfl);rw [← hsn] at x1;have HSB:=Hd hNN;have hvg:∀ k,(Value.slice va N0 vc).ownBlock=some k→k < wr.heap.size:=fun k hk=>(HVJ.out.lt hk).2;have HV1:=Hd hv1;have HV2:=Hd hv2;clear he hL0 hL1 hL2 hsn hsm hsx hv0 hv1 hv2;(go_upto_region 5 with (fail));have oA:Only [] wr (wr.alloc (.cells #[.int .i64 k,.string sn,.slice a0 L0 c0,.int .i64 nn,.slice a1 L1 c1,.slice a2 L2 c2,.int .i64 p] 113)):=(Only.refl _ _).alloc _;have hY:=ag wr (.cells #[.int .i64 k,.string sn,.slice a0 L0 c0,.int .i64 nn,.slice a1 L1 c1,.slice a2 L2 c2,.int .i64 p] 113);have hsz:(wr.alloc (.cells #[.int .i64 k,.string sn,.slice a0 L0 c0,.int .i64 nn,.slice a1 L1 c1,.slice a2 L2 c2,.int .i64 p] 113)).heap.size=wr.heap.size+1:=Array.size_push _;obtain ⟨gb,hgb⟩:∃ g,g=wr.heap.size:=⟨_,rfl⟩
   rw [← hgb] at hY hsz⊢;replace HVJ:=Hd (HVJ.out.quiet oA);replace HO:=Hd (HO.out.trans oA (by simp));have HG:=Hd (show ∀ k,(Value.slice va N0 vc).ownBlock=some k→k≠gb from fun k hk=>by have:=hvg k hk;omega);clear oA x0 x1 x2 x3 x4 x5 x6 hvg hgb;generalize wr.alloc (.cells #[.int .i64 k,.string sn,.slice a0 L0 c0,.int .i64 nn,.slice a1 L1 c1,.slice a2 L2 c2,.int .i64 p] 113)=w1 at hY HVJ HO hsz⊢;have HLG:=Hd (show gb < w1.heap.size by omega);have y0:w1.cell? ⟨gb,0,none⟩=some (.int .i64 k):=ab 0 hY;have y1:w1.cell? ⟨gb,1,none⟩=some (.string sn):=ab 1 hY;have y2:w1.cell? ⟨gb,2,none⟩=some (.slice a0 L0 c0):=ab 2 hY;have y3:w1.cell? ⟨gb,3,none⟩=some (.int .i64 nn):=ab 3 hY;have y4:w1.cell? ⟨gb,4,none⟩=some (.slice a1 L1 c1):=ab 4 hY;have y5:w1.cell? ⟨gb,5,none⟩=some (.slice a2 L2 c2):=ab 5 hY;have y6:w1.cell? ⟨gb,6,none⟩=some (.int .i64 p):=ab 6 hY;clear hY hsz
   by_cases h1:k=1
   ·subst h1;have HTK:=Hd (show aA (xs.take (j+1))=l0.map Sx.dc++([(nm,p,1)]++aA bd++aA els) by rw [hTK];unfold cy;rw [if_pos (by decide)]);clear hTK;(go_upto_region 9 with (fail));have HQ:=Hd (And.intro HVJ.out HO.out);have HX:=Hd (And.intro y4 y5);have hsz1:=HO.out.size;have hlt0:=fe y0;have hg1:gb≠w1.heap.size:=by omega
    go_upto_region 10 with (have oB:Only [] w1 (w1.alloc (.cells #[.int .i64 1,.string sn,.slice a0 L0 c0,.int .i64 nn,.slice a1 L1 c1,.slice a2 L2 c2,.int .i64 p] 113)):=(Only.refl _ _).alloc _;have hB:=ag w1 (.cells #[.int .i64 1,.string sn,.slice a0 L0 c0,.int .i64 nn,.slice a1 L1 c1,.slice a2 L2 c2,.int .i64 p] 113);refine az (R:=rS) rfl (.tmp 18) (.tmp 20) rfl w.heap.size _ l0 (by rfl) (HQ.out.1.quiet oB) (.slice (some ⟨w1.heap.size,0,none⟩) 1 1) [sx] (by rfl) (dz (R:=rS) sx _ _ (fun j u hj=>(ab j hB).trans (by rw [show rS.en sx=_ from HEN.out] at hj;simpa using hj))) (N0+1) (by rw [List.length_singleton,← HN0.out]) (l0++[sx]) rfl (by have:=HLB.out;omega) (Nat.le_trans hsz1 oB.size) ?_;intro ra rc w9 h9 x9;have H9:=Hd (And.intro h9 (And.intro x9 oB));clear h9 x9 oB hB)
    have HR2:=Hd H9.out.1;have HO2:=Hd (OR.ownU (HQ.out.2.trans H9.out.2.2 (by simp)) (HQ.out.1.quiet H9.out.2.2) H9.out.2.1);have HX4:=Hd (ac H9.out.2.1.only (ac H9.out.2.2 HX.out.1 (by simp)) (fun hk=>HG.out _ (by simpa using hk) rfl));have HX5:=Hd (ac H9.out.2.1.only (ac H9.out.2.2 HX.out.2 (by simp)) (fun hk=>HG.out _ (by simpa using hk) rfl))
    have HG2:=Hd (show ∀ k,(Value.slice ra (N0+1) rc).ownBlock=some k→k≠gb from fun k hk=>by
     rcases H9.out.2.1.src k hk with e | e
     ·exact HG.out k e
     ·have h1:=H9.out.2.2.size;have h2:=HLG.out
      omega)
    have HL2:=Hd (show N0+1=(l0++[sx]).length by rw [List.length_append,List.length_singleton,← HN0.out]);have HPR:=Hd (show aA (xs.take (j+1))=(l0++[sx]).map Sx.dc++aA bd++aA els by rw [HTK.out,List.map_append];simp only [List.append_assoc,List.map_cons,List.map_nil,HDC.out]);have HLI:=Hd (show N0+1≤100001 by have:=HLB.out;omega);clear H9 HQ HX HVJ HO hsz1 hlt0 hg1 y0 y1 y2 y3 y4 y5 y6 HTK HEN HDC HG HLG HLB;obtain ⟨l1,hl1⟩:∃ l,l=l0++[sx]:=⟨_,rfl⟩
    rw [← hl1] at HR2 HL2 HPR;obtain ⟨N1,hN1⟩:∃ n,n=N0+1:=⟨_,rfl⟩
    rw [← hN1] at HR2 HL2 HLI HG2⊢;clear hl1 hN1 HN0 HL0;have x4:w9.cell? ⟨gb,4,none⟩=some (.slice a1 L1 c1):=HX4.out;have KB:=HIS.out (ah bd) HSZ.out.1 bd (Nat.le_refl _) w9 _ _ (SsV.quietG HO2.out HV1.out);(go_wp2_with fail);refine KB.mono ?_;rintro en w3 ⟨v3,m0,rfl,hv3,hm3,o3⟩;obtain ⟨va3,vc3,rfl⟩:=hv3.shape;have hmb:=aY bd;rw [← hm3,List.length_map] at hmb;obtain ⟨M0,hM0⟩:∃ m,m=m0.length:=⟨_,rfl⟩
    rw [← hM0] at hv3 hmb⊢;have HB1:=Hd hv3.rv;have HB2:=Hd (HR2.out.quiet o3);have HB3:=Hd (HO2.out.trans o3 (by simp));have HX5b:=Hd (ac o3 HX5.out (by simp));have HM0:=Hd hM0;have HM3:=Hd hm3;have HMB:=Hd hmb;clear hv3 o3 KB x4 HX4 HX5 HR2 HO2 hm3 hM0 hmb;have hfl1:N1+M0≤1048576:=bnd1 HSZ.out HSB.out HLI.out HMB.out;have hs3:=HB3.out.size;go_upto_region 11 with (refine az (R:=rS) rfl (.tmp 22) (.tmp 25) rfl w.heap.size _ l1 (by rfl) HB2.out _ m0 (by rfl) HB1.out (N1+M0) (by rw [← HL2.out,← HM0.out]) (l1++m0) rfl hfl1 hs3 ?_;intro ra2 rc2 w4 h4 x4;have H4:=Hd (And.intro h4 x4);clear h4 x4)
    have HR4:=Hd H4.out.1;have HO4:=Hd (OR.ownU HB3.out HB2.out H4.out.2);have HL4:=Hd (show N1+M0=(l1++m0).length by rw [List.length_append,← HL2.out,← HM0.out]);have x5:w4.cell? ⟨gb,5,none⟩=some (.slice a2 L2 c2):=ac H4.out.2.only HX5b.out (fun hk=>HG2.out _ (by simpa using hk) rfl);clear HB1 HB2 HB3 HX5b H4 hs3 hfl1 HG2;obtain ⟨N3,hN3⟩:∃ n,n=N1+M0:=⟨_,rfl⟩
    rw [← hN3] at HR4 HL4⊢;have HN3:=Hd hN3;clear hN3;obtain ⟨l3,hl3⟩:∃ l,l=l1++m0:=⟨_,rfl⟩
    rw [← hl3] at HR4 HL4;have HPR3:=Hd (show aA (xs.take (j+1))=l3.map Sx.dc++aA els by rw [HPR.out,hl3,List.map_append,HM3.out]);clear hl3 HPR HM3;have KB:=HIS.out (ah els) HSZ.out.2 els (Nat.le_refl _) w4 _ _ (SsV.quietG HO4.out HV2.out);(go_wp2_with fail);refine KB.mono ?_;rintro en w5 ⟨v5,m2,rfl,hv5,hm5,o5⟩;obtain ⟨va5,vc5,rfl⟩:=hv5.shape;have hmb2:=aY els;rw [← hm5,List.length_map] at hmb2;obtain ⟨M2,hM2⟩:∃ m,m=m2.length:=⟨_,rfl⟩
    rw [← hM2] at hv5 hmb2⊢;have HB1:=Hd hv5.rv;have HB2:=Hd (HR4.out.quiet o5);have HB3:=Hd (HO4.out.trans o5 (by simp));have HM2:=Hd hM2;have HM5:=Hd hm5;have hfl:N3+M2≤1048576:=by rw [HN3.out];exact bnd2 HSZ.out HSB.out HLI.out HMB.out hmb2
    have hs5:=HB3.out.size;clear hv5 o5 KB x5 HR4 HO4 hM2 hm5 hmb2;go_wp2_with (refine az (R:=rS) rfl (.tmp 27) (.tmp 30) rfl w.heap.size _ l3 (by rfl) HB2.out _ m2 (by rfl) HB1.out (N3+M2) (by rw [← HL4.out,← HM2.out]) (l3++m2) rfl hfl hs5 ?_;intro ra6 rc6 w6 h6 x6;have H6:=Hd (And.intro h6 x6);clear h6 x6)
    (go_wp2_with fail);refine ⟨⟨j+1,ra6,N3+M2,rc6,l3++m2,by omega,by simp,rfl,Hd (by rw [List.length_append,← HL4.out,← HM2.out]),Hd H6.out.1,Hd (by rw [HPR3.out,List.map_append,HM5.out]),Hd (OR.ownU HB3.out HB2.out H6.out.2)⟩,?_⟩;simp [intOf];omega
   ·have e1:(k == 1)=false:=by simpa using h1
    by_cases h7:k=7
    ·subst h7;have HTK:=Hd (show aA (xs.take (j+1))=l0.map Sx.dc++([(nm,p,7)]++aA bd++aA els) by rw [hTK];unfold cy;rw [if_pos (by decide)]);clear hTK;(go_upto_region 9 with (fail));have HQ:=Hd (And.intro HVJ.out HO.out);have HX:=Hd (And.intro y4 y5);have hsz1:=HO.out.size;have hlt0:=fe y0;have hg1:gb≠w1.heap.size:=by omega
     go_upto_region 10 with (have oB:Only [] w1 (w1.alloc (.cells #[.int .i64 7,.string sn,.slice a0 L0 c0,.int .i64 nn,.slice a1 L1 c1,.slice a2 L2 c2,.int .i64 p] 113)):=(Only.refl _ _).alloc _;have hB:=ag w1 (.cells #[.int .i64 7,.string sn,.slice a0 L0 c0,.int .i64 nn,.slice a1 L1 c1,.slice a2 L2 c2,.int .i64 p] 113);refine az (R:=rS) rfl (.tmp 18) (.tmp 20) rfl w.heap.size _ l0 (by rfl) (HQ.out.1.quiet oB) (.slice (some ⟨w1.heap.size,0,none⟩) 1 1) [sx] (by rfl) (dz (R:=rS) sx _ _ (fun j u hj=>(ab j hB).trans (by rw [show rS.en sx=_ from HEN.out] at hj;simpa using hj))) (N0+1) (by rw [List.length_singleton,← HN0.out]) (l0++[sx]) rfl (by have:=HLB.out;omega) (Nat.le_trans hsz1 oB.size) ?_;intro ra rc w9 h9 x9;have H9:=Hd (And.intro h9 (And.intro x9 oB));clear h9 x9 oB hB)
     have HR2:=Hd H9.out.1;have HO2:=Hd (OR.ownU (HQ.out.2.trans H9.out.2.2 (by simp)) (HQ.out.1.quiet H9.out.2.2) H9.out.2.1);have HX4:=Hd (ac H9.out.2.1.only (ac H9.out.2.2 HX.out.1 (by simp)) (fun hk=>HG.out _ (by simpa using hk) rfl));have HX5:=Hd (ac H9.out.2.1.only (ac H9.out.2.2 HX.out.2 (by simp)) (fun hk=>HG.out _ (by simpa using hk) rfl))
     have HG2:=Hd (show ∀ k,(Value.slice ra (N0+1) rc).ownBlock=some k→k≠gb from fun k hk=>by
      rcases H9.out.2.1.src k hk with e | e
      ·exact HG.out k e
      ·have h1:=H9.out.2.2.size;have h2:=HLG.out
       omega)
     have HL2:=Hd (show N0+1=(l0++[sx]).length by rw [List.length_append,List.length_singleton,← HN0.out]);have HPR:=Hd (show aA (xs.take (j+1))=(l0++[sx]).map Sx.dc++aA bd++aA els by rw [HTK.out,List.map_append];simp only [List.append_assoc,List.map_cons,List.map_nil,HDC.out]);have HLI:=Hd (show N0+1≤100001 by have:=HLB.out;omega);clear H9 HQ HX HVJ HO hsz1 hlt0 hg1 y0 y1 y2 y3 y4 y5 y6 HTK HEN HDC HG HLG HLB;obtain ⟨l1,hl1⟩:∃ l,l=l0++[sx]:=⟨_,rfl⟩
     rw [← hl1] at HR2 HL2 HPR;obtain ⟨N1,hN1⟩:∃ n,n=N0+1:=⟨_,rfl⟩
     rw [← hN1] at HR2 HL2 HLI HG2⊢;clear hl1 hN1 HN0 HL0;have x4:w9.cell? ⟨gb,4,none⟩=some (.slice a1 L1 c1):=HX4.out;have KB:=HIS.out (ah bd) HSZ.out.1 bd (Nat.le_refl _) w9 _ _ (SsV.quietG HO2.out HV1.out);(go_wp2_with fail);refine KB.mono ?_;rintro en w3 ⟨v3,m0,rfl,hv3,hm3,o3⟩;obtain ⟨va3,vc3,rfl⟩:=hv3.shape;have hmb:=aY bd;rw [← hm3,List.length_map] at hmb;obtain ⟨M0,hM0⟩:∃ m,m=m0.length:=⟨_,rfl⟩
     rw [← hM0] at hv3 hmb⊢;have HB1:=Hd hv3.rv;have HB2:=Hd (HR2.out.quiet o3);have HB3:=Hd (HO2.out.trans o3 (by simp));have HX5b:=Hd (ac o3 HX5.out (by simp));have HM0:=Hd hM0;have HM3:=Hd hm3;have HMB:=Hd hmb;clear hv3 o3 KB x4 HX4 HX5 HR2 HO2 hm3 hM0 hmb;have hfl1:N1+M0≤1048576:=bnd1 HSZ.out HSB.out HLI.out HMB.out;have hs3:=HB3.out.size;go_upto_region 11 with (refine az (R:=rS) rfl (.tmp 22) (.tmp 25) rfl w.heap.size _ l1 (by rfl) HB2.out _ m0 (by rfl) HB1.out (N1+M0) (by rw [← HL2.out,← HM0.out]) (l1++m0) rfl hfl1 hs3 ?_;intro ra2 rc2 w4 h4 x4;have H4:=Hd (And.intro h4 x4);clear h4 x4)
     have HR4:=Hd H4.out.1;have HO4:=Hd (OR.ownU HB3.out HB2.out H4.out.2);have HL4:=Hd (show N1+M0=(l1++m0).length by rw [List.length_append,← HL2.out,← HM0.out]);have x5:w4.cell? ⟨gb,5,none⟩=some (.slice a2 L2 c2):=ac H4.out.2.only HX5b.out (fun hk=>HG2.out _ (by simpa using hk) rfl);clear HB1 HB2 HB3 HX5b H4 hs3 hfl1 HG2;obtain ⟨N3,hN3⟩:∃ n,n=N1+M0:=⟨_,rfl⟩
     rw [← hN3] at HR4 HL4⊢;have HN3:=Hd hN3;clear hN3;obtain ⟨l3,hl3⟩:∃ l,l=l1++m0:=⟨_,rfl⟩
     rw [← hl3] at HR4 HL4;have HPR3:=Hd (show aA (xs.take (j+1))=l3.map Sx.dc++aA els by rw [HPR.out,hl3,List.map_append,HM3.out]);clear hl3 HPR HM3;have KB:=HIS.out (ah els) HSZ.out.2 els (Nat.le_refl _) w4 _ _ (SsV.quietG HO4.out HV2.out);(go_wp2_with fail);refine KB.mono ?_;rintro en w5 ⟨v5,m2,rfl,hv5,hm5,o5⟩;obtain ⟨va5,vc5,rfl⟩:=hv5.shape;have hmb2:=aY els;rw [← hm5,List.length_map] at hmb2;obtain ⟨M2,hM2⟩:∃ m,m=m2.length:=⟨_,rfl⟩
     rw [← hM2] at hv5 hmb2⊢;have HB1:=Hd hv5.rv;have HB2:=Hd (HR4.out.quiet o5);have HB3:=Hd (HO4.out.trans o5 (by simp));have HM2:=Hd hM2;have HM5:=Hd hm5;have hfl:N3+M2≤1048576:=by rw [HN3.out];exact bnd2 HSZ.out HSB.out HLI.out HMB.out hmb2
     have hs5:=HB3.out.size;clear hv5 o5 KB x5 HR4 HO4 hM2 hm5 hmb2;go_wp2_with (refine az (R:=rS) rfl (.tmp 27) (.tmp 30) rfl w.heap.size _ l3 (by rfl) HB2.out _ m2 (by rfl) HB1.out (N3+M2) (by rw [← HL4.out,← HM2.out]) (l3++m2) rfl hfl hs5 ?_;intro ra6 rc6 w6 h6 x6;have H6:=Hd (And.intro h6 x6);clear h6 x6)
     (go_wp2_with fail);refine ⟨⟨j+1,ra6,N3+M2,rc6,l3++m2,by omega,by simp,rfl,Hd (by rw [List.length_append,← HL4.out,← HM2.out]),Hd H6.out.1,Hd (by rw [HPR3.out,List.map_append,HM5.out]),Hd (OR.ownU HB3.out HB2.out H6.out.2)⟩,?_⟩;simp [intOf];omega
    ·have e7:(k == 7)=false:=by simpa using h7
     by_cases h8:k=8
     ·subst h8;have HTK:=Hd (show aA (xs.take (j+1))=l0.map Sx.dc++([(nm,p,8)]++aA bd++aA els) by rw [hTK];unfold cy;rw [if_pos (by decide)]);clear hTK;(go_upto_region 9 with (fail));have HQ:=Hd (And.intro HVJ.out HO.out);have HX:=Hd (And.intro y4 y5);have hsz1:=HO.out.size;have hlt0:=fe y0;have hg1:gb≠w1.heap.size:=by omega
      go_upto_region 10 with (have oB:Only [] w1 (w1.alloc (.cells #[.int .i64 8,.string sn,.slice a0 L0 c0,.int .i64 nn,.slice a1 L1 c1,.slice a2 L2 c2,.int .i64 p] 113)):=(Only.refl _ _).alloc _;have hB:=ag w1 (.cells #[.int .i64 8,.string sn,.slice a0 L0 c0,.int .i64 nn,.slice a1 L1 c1,.slice a2 L2 c2,.int .i64 p] 113);refine az (R:=rS) rfl (.tmp 18) (.tmp 20) rfl w.heap.size _ l0 (by rfl) (HQ.out.1.quiet oB) (.slice (some ⟨w1.heap.size,0,none⟩) 1 1) [sx] (by rfl) (dz (R:=rS) sx _ _ (fun j u hj=>(ab j hB).trans (by rw [show rS.en sx=_ from HEN.out] at hj;simpa using hj))) (N0+1) (by rw [List.length_singleton,← HN0.out]) (l0++[sx]) rfl (by have:=HLB.out;omega) (Nat.le_trans hsz1 oB.size) ?_;intro ra rc w9 h9 x9;have H9:=Hd (And.intro h9 (And.intro x9 oB));clear h9 x9 oB hB)
      have HR2:=Hd H9.out.1;have HO2:=Hd (OR.ownU (HQ.out.2.trans H9.out.2.2 (by simp)) (HQ.out.1.quiet H9.out.2.2) H9.out.2.1);have HX4:=Hd (ac H9.out.2.1.only (ac H9.out.2.2 HX.out.1 (by simp)) (fun hk=>HG.out _ (by simpa using hk) rfl));have HX5:=Hd (ac H9.out.2.1.only (ac H9.out.2.2 HX.out.2 (by simp)) (fun hk=>HG.out _ (by simpa using hk) rfl))
      have HG2:=Hd (show ∀ k,(Value.slice ra (N0+1) rc).ownBlock=some k→k≠gb from fun k hk=>by
       rcases H9.out.2.1.src k hk with e | e
       ·exact HG.out k e
       ·have h1:=H9.out.2.2.size;have h2:=HLG.out
        omega)
      have HL2:=Hd (show N0+1=(l0++[sx]).length by rw [List.length_append,List.length_singleton,← HN0.out]);have HPR:=Hd (show aA (xs.take (j+1))=(l0++[sx]).map Sx.dc++aA bd++aA els by rw [HTK.out,List.map_append];simp only [List.append_assoc,List.map_cons,List.map_nil,HDC.out]);have HLI:=Hd (show N0+1≤100001 by have:=HLB.out;omega);clear H9 HQ HX HVJ HO hsz1 hlt0 hg1 y0 y1 y2 y3 y4 y5 y6 HTK HEN HDC HG HLG HLB;obtain ⟨l1,hl1⟩:∃ l,l=l0++[sx]:=⟨_,rfl⟩
      rw [← hl1] at HR2 HL2 HPR;obtain ⟨N1,hN1⟩:∃ n,n=N0+1:=⟨_,rfl⟩
      rw [← hN1] at HR2 HL2 HLI HG2⊢;clear hl1 hN1 HN0 HL0;have x4:w9.cell? ⟨gb,4,none⟩=some (.slice a1 L1 c1):=HX4.out;have KB:=HIS.out (ah bd) HSZ.out.1 bd (Nat.le_refl _) w9 _ _ (SsV.quietG HO2.out HV1.out);(go_wp2_with fail);refine KB.mono ?_;rintro en w3 ⟨v3,m0,rfl,hv3,hm3,o3⟩;obtain ⟨va3,vc3,rfl⟩:=hv3.shape;have hmb:=aY bd;rw [← hm3,List.length_map] at hmb;obtain ⟨M0,hM0⟩:∃ m,m=m0.length:=⟨_,rfl⟩
      rw [← hM0] at hv3 hmb⊢;have HB1:=Hd hv3.rv;have HB2:=Hd (HR2.out.quiet o3);have HB3:=Hd (HO2.out.trans o3 (by simp));have HX5b:=Hd (ac o3 HX5.out (by simp));have HM0:=Hd hM0;have HM3:=Hd hm3;have HMB:=Hd hmb;clear hv3 o3 KB x4 HX4 HX5 HR2 HO2 hm3 hM0 hmb;have hfl1:N1+M0≤1048576:=bnd1 HSZ.out HSB.out HLI.out HMB.out;have hs3:=HB3.out.size;go_upto_region 11 with (refine az (R:=rS) rfl (.tmp 22) (.tmp 25) rfl w.heap.size _ l1 (by rfl) HB2.out _ m0 (by rfl) HB1.out (N1+M0) (by rw [← HL2.out,← HM0.out]) (l1++m0) rfl hfl1 hs3 ?_;intro ra2 rc2 w4 h4 x4;have H4:=Hd (And.intro h4 x4);clear h4 x4)
      have HR4:=Hd H4.out.1;have HO4:=Hd (OR.ownU HB3.out HB2.out H4.out.2);have HL4:=Hd (show N1+M0=(l1++m0).length by rw [List.length_append,← HL2.out,← HM0.out]);have x5:w4.cell? ⟨gb,5,none⟩=some (.slice a2 L2 c2):=ac H4.out.2.only HX5b.out (fun hk=>HG2.out _ (by simpa using hk) rfl);clear HB1 HB2 HB3 HX5b H4 hs3 hfl1 HG2;obtain ⟨N3,hN3⟩:∃ n,n=N1+M0:=⟨_,rfl⟩
      rw [← hN3] at HR4 HL4⊢;have HN3:=Hd hN3;clear hN3;obtain ⟨l3,hl3⟩:∃ l,l=l1++m0:=⟨_,rfl⟩
      rw [← hl3] at HR4 HL4;have HPR3:=Hd (show aA (xs.take (j+1))=l3.map Sx.dc++aA els by rw [HPR.out,hl3,List.map_append,HM3.out]);clear hl3 HPR HM3;have KB:=HIS.out (ah els) HSZ.out.2 els (Nat.le_refl _) w4 _ _ (SsV.quietG HO4.out HV2.out);(go_wp2_with fail);refine KB.mono ?_;rintro en w5 ⟨v5,m2,rfl,hv5,hm5,o5⟩;obtain ⟨va5,vc5,rfl⟩:=hv5.shape;have hmb2:=aY els;rw [← hm5,List.length_map] at hmb2;obtain ⟨M2,hM2⟩:∃ m,m=m2.length:=⟨_,rfl⟩
      rw [← hM2] at hv5 hmb2⊢;have HB1:=Hd hv5.rv;have HB2:=Hd (HR4.out.quiet o5);have HB3:=Hd (HO4.out.trans o5 (by simp));have HM2:=Hd hM2;have HM5:=Hd hm5;have hfl:N3+M2≤1048576:=by rw [HN3.out];exact bnd2 HSZ.out HSB.out HLI.out HMB.out hmb2
      have hs5:=HB3.out.size;clear hv5 o5 KB x5 HR4 HO4 hM2 hm5 hmb2;go_wp2_with (refine az (R:=rS) rfl (.tmp 27) (.tmp 30) rfl w.heap.size _ l3 (by rfl) HB2.out _ m2 (by rfl) HB1.out (N3+M2) (by rw [← HL4.out,← HM2.out]) (l3++m2) rfl hfl hs5 ?_;intro ra6 rc6 w6 h6 x6;have H6:=Hd (And.intro h6 x6);clear h6 x6)
      (go_wp2_with fail);refine ⟨⟨j+1,ra6,N3+M2,rc6,l3++m2,by omega,by simp,rfl,Hd (by rw [List.length_append,← HL4.out,← HM2.out]),Hd H6.out.1,Hd (by rw [HPR3.out,List.map_append,HM5.out]),Hd (OR.ownU HB3.out HB2.out H6.out.2)⟩,?_⟩;simp [intOf];omega
     ·have e8:(k == 8)=false:=by simpa using h8
      have HTK:=Hd (show aA (xs.take (j+1))=l0.map Sx.dc++([]++aA bd++aA els) by rw [hTK];unfold cy;rw [if_neg (by omega)]);clear hTK;(go_upto_region 10 with (fail));have HR2:=HVJ;have HO2:=HO;have HX4:=Hd y4;have HX5:=Hd y5;have HG2:=HG;have HL2:=HN0;have HLI:=Hd (show N0≤100001 by have:=HLB.out;omega);have HPR:=Hd (show aA (xs.take (j+1))=l0.map Sx.dc++aA bd++aA els by rw [HTK.out];simp only [List.append_assoc,List.nil_append]);clear HVJ HO HG y0 y1 y2 y3 y4 y5 y6 HN0 HTK HEN HDC HLG HLB HL0;have x4:w1.cell? ⟨gb,4,none⟩=some (.slice a1 L1 c1):=HX4.out;have KB:=HIS.out (ah bd) HSZ.out.1 bd (Nat.le_refl _) w1 _ _ (SsV.quietG HO2.out HV1.out);(go_wp2_with fail);refine KB.mono ?_;rintro en w3 ⟨v3,m0,rfl,hv3,hm3,o3⟩;obtain ⟨va3,vc3,rfl⟩:=hv3.shape;have hmb:=aY bd;rw [← hm3,List.length_map] at hmb;obtain ⟨M0,hM0⟩:∃ m,m=m0.length:=⟨_,rfl⟩
      rw [← hM0] at hv3 hmb⊢;have HB1:=Hd hv3.rv;have HB2:=Hd (HR2.out.quiet o3);have HB3:=Hd (HO2.out.trans o3 (by simp));have HX5b:=Hd (ac o3 HX5.out (by simp));have HM0:=Hd hM0;have HM3:=Hd hm3;have HMB:=Hd hmb;clear hv3 o3 KB x4 HX4 HX5 HR2 HO2 hm3 hM0 hmb;have hfl1:N0+M0≤1048576:=bnd1 HSZ.out HSB.out HLI.out HMB.out;have hs3:=HB3.out.size;go_upto_region 11 with (refine az (R:=rS) rfl (.tmp 22) (.tmp 25) rfl w.heap.size _ l0 (by rfl) HB2.out _ m0 (by rfl) HB1.out (N0+M0) (by rw [← HL2.out,← HM0.out]) (l0++m0) rfl hfl1 hs3 ?_;intro ra2 rc2 w4 h4 x4;have H4:=Hd (And.intro h4 x4);clear h4 x4)
      have HR4:=Hd H4.out.1;have HO4:=Hd (OR.ownU HB3.out HB2.out H4.out.2);have HL4:=Hd (show N0+M0=(l0++m0).length by rw [List.length_append,← HL2.out,← HM0.out]);have x5:w4.cell? ⟨gb,5,none⟩=some (.slice a2 L2 c2):=ac H4.out.2.only HX5b.out (fun hk=>HG2.out _ (by simpa using hk) rfl);clear HB1 HB2 HB3 HX5b H4 hs3 hfl1 HG2;obtain ⟨N3,hN3⟩:∃ n,n=N0+M0:=⟨_,rfl⟩
      rw [← hN3] at HR4 HL4⊢;have HN3:=Hd hN3;clear hN3;obtain ⟨l3,hl3⟩:∃ l,l=l0++m0:=⟨_,rfl⟩
      rw [← hl3] at HR4 HL4;have HPR3:=Hd (show aA (xs.take (j+1))=l3.map Sx.dc++aA els by rw [HPR.out,hl3,List.map_append,HM3.out]);clear hl3 HPR HM3;have KB:=HIS.out (ah els) HSZ.out.2 els (Nat.le_refl _) w4 _ _ (SsV.quietG HO4.out HV2.out);(go_wp2_with fail);refine KB.mono ?_;rintro en w5 ⟨v5,m2,rfl,hv5,hm5,o5⟩;obtain ⟨va5,vc5,rfl⟩:=hv5.shape;have hmb2:=aY els;rw [← hm5,List.length_map] at hmb2;obtain ⟨M2,hM2⟩:∃ m,m=m2.length:=⟨_,rfl⟩
      rw [← hM2] at hv5 hmb2⊢;have HB1:=Hd hv5.rv;have HB2:=Hd (HR4.out.quiet o5);have HB3:=Hd (HO4.out.trans o5 (by simp));have HM2:=Hd hM2;have HM5:=Hd hm5;have hfl:N3+M2≤1048576:=by rw [HN3.out];exact bnd2 HSZ.out HSB.out HLI.out HMB.out hmb2
      have hs5:=HB3.out.size;clear hv5 o5 KB x5 HR4 HO4 hM2 hm5 hmb2;go_wp2_with (refine az (R:=rS) rfl (.tmp 27) (.tmp 30) rfl w.heap.size _ l3 (by rfl) HB2.out _ m2 (by rfl) HB1.out (N3+M2) (by rw [← HL4.out,← HM2.out]) (l3++m2) rfl hfl hs5 ?_;intro ra6 rc6 w6 h6 x6;have H6:=Hd (And.intro h6 x6);clear h6 x6)
      (go_wp2_with fail);refine ⟨⟨j+1,ra6,N3+M2,rc6,l3++m2,by omega,by simp,rfl,Hd (by rw [List.length_append,← HL4.out,← HM2.out]),Hd H6.out.1,Hd (by rw [HPR3.out,List.map_append,HM5.out]),Hd (OR.ownU HB3.out HB2.out H6.out.2)⟩,?_⟩;simp [intOf];omega
  ·obtain rfl:j=n:=by omega
   have hl1:l0.map Sx.dc=RG:=by rw [HL0.out,HRG.out,List.take_of_length_le (by rw [← HN.out];exact Nat.le_refl _)]
   (go_wp2_with fail);go_ret;exact ⟨_,_,rfl,HVJ.out,hl1,HO.out⟩
theorem oK (N:Nat) (hN:N≤100000):DeP N:=by
 induction N using Nat.strongRecOn with
 | _ N ih=>exact mB N hN fun M hM=>ih M hM (by omega)
end Go.Proofs.YtcebchffcmpfeaaGreat
