import Derived.Test.YtheanmadognhbaaGreatDoorQ12t
namespace Go.Proofs.YtheanmadognhbaaGreatDoor
set_option linter.unusedVariables false
set_option linter.unusedSimpArgs false
set_option maxRecDepth 100000
set_option maxHeartbeats 16000000
open Go.RowKit Go.Maps
def tV:Int→List E→Int
 | acc,[]=>acc
 | acc,e :: es=>tV (wrap64 (acc+(aw e:Nat))) es
theorem mG:∀ (l:List E) (a:Nat),a+ak l≤1074000000→tV a l=((a+ak l:Nat):Int)
 | [],a,_=>by rw [aZ];rfl
 | e :: es,a,h=>by
  rw [aB] at h⊢;show tV (wrap64 ((a:Int)+(aw e:Nat))) es=_;rw [aK (by omega) (by omega),show (a:Int)+((aw e:Nat):Int)=((a+aw e:Nat):Int) by omega,mG es _ (by omega)];omega
theorem oo {acc:Int} {xs:List E} {j:Nat} {e:E} (hj:xs[j]?=some e):tV acc (xs.drop j)=tV (wrap64 (acc+(aw e:Nat))) (xs.drop (j+1)):=by
 obtain ⟨hlt,rfl⟩:=List.getElem?_eq_some_iff.1 hj;rw [List.drop_eq_getElem_cons hlt];rfl
theorem kn {want:Int} {env:Env} {r:RS} {xs:List E} {j:Nat} {e:E} (hj:xs[j]?=some e):dE want env r (xs.drop j)=dE want env (bp r e want env) (xs.drop (j+1)):=by
 obtain ⟨hlt,rfl⟩:=List.getElem?_eq_some_iff.1 hj;rw [List.drop_eq_getElem_cons hlt];rfl
theorem xu {r:RS} {xs:List Sec} {j:Nat} {e:Sec} (hj:xs[j]?=some e):iA r (xs.drop j)=iA (r.declare e 0) (xs.drop (j+1)):=by
 obtain ⟨hlt,rfl⟩:=List.getElem?_eq_some_iff.1 hj;rw [List.drop_eq_getElem_cons hlt];rfl
theorem xw {xs:List Sec} {j:Nat} {e:Sec} (hj:xs[j]?=some e):iB (xs.take (j+1))=iB (xs.take j)++[(e,1)]:=by
 rw [List.take_add_one,hj];simp [iB]
def totW (d:Df):Int:=tV (tV (km 0 d.body) d.needs) d.give
theorem lK:∀ (xs:List St) (r:RS) (env:Env),(ay r xs env).2.length≤env.length+xs.length
 | [],r,env=>by unfold ay;simp
 | x :: xs,r,env=>by
  have h1:=lK xs (bY r x env).1 (bY r x env).2;have h2:(bY r x env).2.length≤env.length+1:=by
   obtain ⟨k,nm,ys,n,bd,els,p⟩:=x;unfold bY
   repeat' split
   all_goals simp
  unfold ay;rw [List.length_cons];omega
theorem totW_few {d:Df} (hw:Whole d) (hf:ju d.body):totW d=((fd 0 d.body+ak d.needs+ak d.give:Nat):Int)∧stD d=min (fd 0 d.body+ak d.needs+ak d.give) 2049:=by
 have hsz:=hw.size;have h1:=i6 d.body 0 (by omega) (by omega) hf;have h2:=mq d.body 0 (by omega);have h3:=mp d.body 0;have h1:km 0 d.body=(fd 0 d.body:Nat):=h1;have h3:min (fd 0 d.body) 2049=stB 0 d.body:=h3;refine ⟨?_,?_⟩
 ·unfold totW;rw [h1,mG _ _ (by omega),mG _ _ (by omega)]
 ·unfold stD;omega
theorem rm {d:Df} {c p:Int} (h:(opG CS.new d).flt=some (c,p)):mn d=(pK,c,p):=by
 have:opS CS.new d=opG CS.new d:=by unfold opS;rw [h];rfl
 unfold mn;rw [this,h]
theorem xx {d:Df} (h:(opG CS.new d).flt=none) (h2:2048 < stD d):mn d=(pK,11,0):=by
 have:(opS CS.new d).flt=some (11,0):=by
  unfold opS;rw [h];simp only [Option.isSome_none,Bool.false_eq_true,if_false];rw [if_pos h2];unfold CS.fail;rw [h]
 unfold mn;rw [this]
theorem chk_good {d:Df} (hw:Whole d) (hp:pB d.body) (h:(opG CS.new d).flt=none) (h2:stD d≤2048):mn d=(⟨fL d,stD d,(opG CS.new d).decl.length,!eN 2 2 d.body && !dR d.body⟩,0,0):=by
 have hs:opS CS.new d=opG CS.new d:=by
  unfold opS;rw [h];simp only [Option.isSome_none,Bool.false_eq_true,if_false];rw [if_neg (by omega)]
 have hf:(opS CS.new d).flt=none:=by rw [hs];exact h
 have:=(info_of hw hp hf).1;unfold mn;rw [hf,this]
theorem bT (tmps:Array Value) (w:World) (g:Nat) (v0 v1 v2 v3 z y:Value) (h2:tmps.getD 2 undef=.pointer (some ⟨g,0,none⟩)) (h3:tmps.getD 3 undef=z) (h4:tmps.getD 4 undef=y) (h:w.heap[g]?=some (.cells #[v0,v1,v2,v3] 64 (0,0))) :
  (results Tryz.f29 tmps).run Tryz.prog w=.ok (.tuple #[.agg #[v0,v1,v2,v3],z,y]) w:=by
 have c0:w.cell? ⟨g,0,none⟩=some v0:=ab 0 h;have c1:w.cell? ⟨g,1,none⟩=some v1:=ab 1 h;have c2:w.cell? ⟨g,2,none⟩=some v2:=ab 2 h;have c3:w.cell? ⟨g,3,none⟩=some v3:=ab 3 h;have hl:(loadVar 64 ⟨g,0,none⟩).run Tryz.prog w=.ok (.agg #[v0,v1,v2,v3]) w:=by
  clear h;simp [go_sem,c0,c1,c2,c3]
 have h2':tmps[2]?.getD undef=.pointer (some ⟨g,0,none⟩):=by simpa using h2
 have h3':tmps[3]?.getD undef=z:=by simpa using h3
 have h4':tmps[4]?.getD undef=y:=by simpa using h4
 simp [results,Tryz.results29,asAddr,h2',h3',h4',hl]
theorem xy (w:World) (A B C:Obj):(((w.alloc A).alloc B).alloc C).heap[w.heap.size]?=some A∧(((w.alloc A).alloc B).alloc C).heap[w.heap.size+1]?=some B∧(((w.alloc A).alloc B).alloc C).heap[w.heap.size+1+1]?=some C∧Only [] w (((w.alloc A).alloc B).alloc C):=by
 have s1:(w.alloc A).heap.size=w.heap.size+1:=Array.size_push _;have s2:((w.alloc A).alloc B).heap.size=w.heap.size+1+1:=by rw [← s1];exact Array.size_push _
 refine ⟨aq _ (aq _ (ag w A)),?_,?_,(((Only.refl [] w).alloc _).alloc _).alloc _⟩
 ·rw [← s1];exact aq _ (ag (w.alloc A) B)
 ·rw [← s2];exact ag _ C
structure DI (w w1 wr:World) (gd gi g:Nat) (B:Nat→Prop) (d:Df) (cd:Array Value) (x1 x2 x3 x4:Value) (vj:Value) (rj:RS) (ve:Value) (ej:Env):Prop where
 b:BI w1 wr gd g (.slice none 0 0) vj rj ve ej
 y:wr.heap[gd]?=some (.cells cd 27 (0,0))
 z:wr.heap[gi]?=some (.cells #[.int .i64 0,.int .i64 0,.int .i64 0,.bool false] 64 (0,0))
 p:NmV wr B x1 d.params
 n:EsV wr B x2 d.needs
 s:SsV wr B x3 d.body
 e:EsV wr B x4 d.give
 o:Only [] w wr
 l:∀ k,B k→k < gd
 h:w.heap.size≤gd
 h1:gd≤w1.heap.size
section
variable {w w1 wr w2:World} {gd gi g:Nat} {B:Nat→Prop} {d:Df} {cd:Array Value} {x1 x2 x3 x4 vj v2 ve ve2:Value} {rj r2:RS} {ej e2:Env}
theorem DI.quiet (h:DI w w1 wr gd gi g B d cd x1 x2 x3 x4 vj rj ve ej) (ho:Only [] wr w2):DI w w1 w2 gd gi g B d cd x1 x2 x3 x4 vj rj ve ej:=
 ⟨h.b.quiet ho,ho.heap h.y (by simp),ho.heap h.z (by simp),h.p.kept ho (by simp) (fun _ h=>h),h.n.quiet ho,h.s.quiet ho,h.e.quiet ho,h.o.trans ho (by simp),h.l,h.h,h.h1⟩
theorem DI.state (h:DI w w1 wr gd gi g B d cd x1 x2 x3 x4 vj rj ve ej) (hk:RK w2 gd g v2 r2) (ht:RT wr w2 g vj v2):DI w w1 w2 gd gi g B d cd x1 x2 x3 x4 v2 r2 ve ej:=
 have hs:∀ q∈g :: vj.ownBlock.toList,¬ B q:=fun q hq hb=>h.b.k.below q hq (h.l q hb)
 ⟨h.b.state hk ht,ht.heap h.b.k h.y (by decide) (by decide),ht.heap h.b.k h.z (by decide) (by decide),h.p.kept ht.only hs (fun _ h=>h),h.n.kept ht.only hs (fun _ h=>h),h.s.kept ht.only hs (fun _ h=>h),h.e.kept ht.only hs (fun _ h=>h),
  h.o.trans ht.only (fun q hq=>.inr (by have:=h.b.k.below q hq;have:=h.h;omega)),h.l,h.h,h.h1⟩
theorem DI.grow (h:DI w w1 wr gd gi g B d cd x1 x2 x3 x4 vj rj ve ej) (he:OKn w2 ve2 e2) (hx:Ext wr ve w2 ve2):DI w w1 w2 gd gi g B d cd x1 x2 x3 x4 vj rj ve2 e2:=
 have hs:∀ q∈ve.ownBlock.toList,¬ B q:=fun q hq hb=>by have:=h.b.o q (by simpa using hq);have:=h.l q hb;have:=h.h1;omega
 ⟨h.b.grow he hx,h.b.kept_box hx h.y (by decide),h.b.kept_box hx h.z (by decide),h.p.kept hx.only hs (fun _ h=>h),h.n.kept hx.only hs (fun _ h=>h),h.s.kept hx.only hs (fun _ h=>h),h.e.kept hx.only hs (fun _ h=>h),
  h.o.trans hx.only (fun q hq=>.inr (by have:=h.b.o q (by simpa using hq);have:=h.h;have:=h.h1;omega)),h.l,h.h,h.h1⟩
end
theorem DI.block {w w1 wr w2:World} {gd gi g:Nat} {B:Nat→Prop} {d:Df} {cd:Array Value} {x1 x2 x3 x4 vj v2 ve ve2:Value} {rj r2:RS} {ej e2:Env} (h:DI w w1 wr gd gi g B d cd x1 x2 x3 x4 vj rj ve ej) (hb:BI wr w2 gd g vj v2 r2 ve2 e2):DI w w1 w2 gd gi g B d cd x1 x2 x3 x4 v2 r2 ve2 e2:=
 have hs:=h.state hb.k hb.t
 ⟨⟨hb.k,h.b.t.trans hb.t,hb.e,fun q hq=>Nat.le_trans h.b.t.only.size (hb.o q hq)⟩,hs.y,hs.z,hs.p,hs.n,hs.s,hs.e,hs.o,hs.l,hs.h,hs.h1⟩
theorem tK {w:World} {B:Nat→Prop} {d:Df} {cs:List Value} (hd:DV w B d cs) (hw:Whole d) (hp:pB d.body):Calls Tryz.prog 29 #[.agg cs.toArray] w fun en w'=>
  en=.returned (.tuple #[infoV (mn d).1,.int .i64 (mn d).2.1,.int .i64 (mn d).2.2])∧Only [] w w':=by
 obtain ⟨v1,v2,v3,v4,rfl,hv1,hv2,hv3,hv4⟩:=hd.lt;obtain ⟨a1,c1,rfl,-⟩:=id hv1;obtain ⟨a2,c2,rfl,-⟩:=id hv2;obtain ⟨a3,c3,rfl,-⟩:=id hv3;obtain ⟨a4,c4,rfl,-⟩:=id hv4;obtain ⟨sn,hsn⟩:∃ sn,sn=ai d.name:=⟨_,rfl⟩
 obtain ⟨L1,hL1⟩:∃ L,L=d.params.length:=⟨_,rfl⟩
 obtain ⟨L2,hL2⟩:∃ L,L=d.needs.length:=⟨_,rfl⟩
 obtain ⟨L3,hL3⟩:∃ L,L=d.body.length:=⟨_,rfl⟩
 obtain ⟨L4,hL4⟩:∃ L,L=d.give.length:=⟨_,rfl⟩
 obtain ⟨C,hC⟩:∃ C,C=mn d:=⟨_,rfl⟩
 rw [← hC];rw [← hsn,← hL1,← hL2,← hL3,← hL4];rw [← hL1] at hv1;rw [← hL2] at hv2;rw [← hL3] at hv3;rw [← hL4] at hv4;obtain ⟨BB,hBB⟩:∃ BB:Nat→Prop,BB=fun b=>B b∧b < w.heap.size:=⟨_,rfl⟩
 rw [← hBB] at hv1 hv2 hv3 hv4;have HB0:=Hd (show ∀ k,BB k→k < w.heap.size by rw [hBB];exact fun k h=>h.2);have HC:=Hd hC;have HW:=Hd hw;have HP:=Hd hp;have HV1:=Hd hv1;have HV2:=Hd hv2;have HV3:=Hd hv3;have HV4:=Hd hv4;have HL:=Hd (And.intro hL1 (And.intro hL2 (And.intro hL3 hL4)));have hl1:L1≤480:=by rw [hL1];exact hw.plen
 have hsz:=hw.size;have hl2:L2≤480:=by rw [hL2];have:=dF d.needs;omega
 have hl4:L4≤480:=by rw [hL4];have:=dF d.give;omega
 clear hd hw hp hv1 hv2 hv3 hv4 hsn hL1 hL2 hL3 hL4 hC hBB
 go_enter Tryz.func29,Tryz.ntmps29
 go_upto_region 2 with (fail)
 obtain ⟨hY,hZ,hS,o1⟩:=xy w (.cells #[.string sn,.slice a1 L1 c1,.slice a2 L2 c2,.slice a3 L3 c3,.slice a4 L4 c4] 27) (.cells #[.int .i64 0,.int .i64 0,.int .i64 0,.bool false] 64) (.cells #[.slice none 0 0,.int .i64 0,.int .i64 0] 119);generalize ((w.alloc (.cells #[.string sn,.slice a1 L1 c1,.slice a2 L2 c2,.slice a3 L3 c3,.slice a4 L4 c4] 27)).alloc (.cells #[.int .i64 0,.int .i64 0,.int .i64 0,.bool false] 64)).alloc (.cells #[.slice none 0 0,.int .i64 0,.int .i64 0] 119)=w1 at hY hZ hS o1⊢;obtain ⟨gd,hgd⟩:∃ g,g=w.heap.size:=⟨_,rfl⟩
 obtain ⟨gi,hgi⟩:∃ g,g=w.heap.size+1:=⟨_,rfl⟩
 obtain ⟨g,hg⟩:∃ g,g=w.heap.size+1+1:=⟨_,rfl⟩
 rw [← hg] at hS⊢;rw [← hgi] at hZ⊢;rw [← hgd] at hY⊢;have gd1:gd < gi:=by omega
 have gd2:gi < g:=by omega
 have gd3:w.heap.size=gd:=hgd.symm;have HB:=Hd (show ∀ k,BB k→k < gd by rw [hgd];exact HB0.out);have HG:=Hd (And.intro hgd (And.intro hgi hg));clear hgd hgi hg gd3;have hk1:RK w1 gd g (.slice none 0 0) RS.new:=⟨hS,ONm.nil _ _,by omega,by show 0≤16;omega⟩
 have y1:w1.cell? ⟨gd,1,none⟩=some (.slice a1 L1 c1):=ab 1 hY
 by_cases h8:8 < L1
 ·have h8':(8:Int) < (L1:Int):=by omega
  have hCC:C=(pK,15,0):=by rw [HC.out];exact rm (jJ (by rw [← HL.out.1];exact h8))
  have HCC:=Hd hCC;have HZ:=Hd hZ;have HO1:=Hd o1;clear hCC hk1 hY hZ hS o1;have s0:w1.cell? ⟨gi,0,none⟩=some (.int .i64 0):=ab 0 HZ.out;have s1:w1.cell? ⟨gi,1,none⟩=some (.int .i64 0):=ab 1 HZ.out;have s2:w1.cell? ⟨gi,2,none⟩=some (.int .i64 0):=ab 2 HZ.out;have s3:w1.cell? ⟨gi,3,none⟩=some (.bool false):=ab 3 HZ.out;have gs0:=ac 0 HZ.out;have gs1:=ac 1 HZ.out;have gs2:=ac 2 HZ.out;have gs3:=ac 3 HZ.out;go_wp2_with fail
  have oz:Only [gi] w1 ((((w1.setCell ⟨gi,0,none⟩ (.int .i64 0)).setCell ⟨gi,1,none⟩ (.int .i64 0)).setCell ⟨gi,2,none⟩ (.int .i64 0)).setCell ⟨gi,3,none⟩ (.bool false)):=oc;have hz:=aF HZ.out (.int .i64 0) (.int .i64 0) (.int .i64 0) (.bool false);generalize (((w1.setCell ⟨gi,0,none⟩ (.int .i64 0)).setCell ⟨gi,1,none⟩ (.int .i64 0)).setCell ⟨gi,2,none⟩ (.int .i64 0)).setCell ⟨gi,3,none⟩ (.bool false)=wz at oz hz⊢;(try simp only [Exit.inBlock,Exit.then]);refine bodyPost_ret (bT _ _ gi _ _ _ _ (.int .i64 15) (.int .i64 0) rfl rfl rfl hz) rfl ?_;exact ⟨by rw [HCC.out];rfl,HO1.out.trans (T:=[gi]) oz (fun k hk=>.inr (by have:=HG.out.2.1;rw [List.mem_singleton.1 hk];omega))⟩
 ·have h8':¬ (8:Int) < (L1:Int):=by omega
  obtain ⟨cd,hcd⟩:∃ cd:Array Value,cd=#[.string sn,.slice a1 L1 c1,.slice a2 L2 c2,.slice a3 L3 c3,.slice a4 L4 c4]:=⟨_,rfl⟩
  rw [← hcd] at hY;have hdi:DI w w1 w1 gd gi g BB d cd (.slice a1 L1 c1) (.slice a2 L2 c2) (.slice a3 L3 c3) (.slice a4 L4 c4) (.slice none 0 0) RS.new (.slice none 0 0) []:=
   ⟨⟨hk1,RT.refl _ _ _,OKn.nil _,fun q hq=>by simp [Value.ownBlock] at hq⟩,hY,hZ,HV1.out.kept o1 (by simp) (fun _ h=>h),HV2.out.quiet o1,HV3.out.quiet o1,HV4.out.quiet o1,o1,HB.out,by rw [HG.out.1];exact Nat.le_refl _,by have:=am hY;omega⟩
  have HDI:=Hd hdi;have HCD:=Hd hcd;clear hk1 hY hZ hS o1 hdi hcd HV1 HV2 HV3 HV4;go_wp2_with fail
  go_loopw [6,7] (fun ev ix wr=>∃ (j:Nat) (vj:Value) (rj:RS) (ej:Env),j≤L1∧ix=.int .i64 (j:Int)∧Hid (DI w w1 wr gd gi g BB d cd (.slice a1 L1 c1) (.slice a2 L2 c2) (.slice a3 L3 c3) (.slice a4 L4 c4) vj rj ev ej)∧Hid (iA RS.new d.params=iA rj (d.params.drop j))∧Hid (ej=iB (d.params.take j))) (fun _ ix _=>L1 - (intOf ix).toNat)
  case atStart=>exact ⟨0,.slice none 0 0,RS.new,[],Nat.zero_le _,rfl,HDI,Hd (by rw [List.drop_zero]),Hd (by simp [iB])⟩
  case round=>
   obtain ⟨j,vj,rj,ej,hj1,rfl,HI,HP1,HE1⟩:=hrel;obtain ⟨ua,uc,rfl⟩:=HI.out.b.e.shape;have hy:=HI.out.y;rw [HCD.out] at hy;have y1:wr.cell? ⟨gd,1,none⟩=some (.slice a1 L1 c1):=ab 1 hy
   by_cases hlt:j < L1
   ·have hlt':(j:Int) < (L1:Int):=by omega
    have j0:(0:Int)≤(j:Int):=by omega
    obtain ⟨b,x,rfl,hx,cx⟩:=nm_at (v:=.slice none 0 0) HI.out.p hlt;obtain ⟨S,hS⟩:∃ S,S=ai x:=⟨_,rfl⟩
    rw [← hS] at cx;have hpd:=HP1.out;rw [xu hx] at hpd;have hen:ej++[(x,1)]=iB (d.params.take (j+1)):=by rw [xw hx,HE1.out]
    have hejl:ej.length≤1000:=by rw [HE1.out];simp [iB];omega
    have K1:=eS HI.out.b.k x 0;rw [← hS] at K1;obtain ⟨r2,hr2⟩:∃ r2,r2=rj.declare x 0:=⟨_,rfl⟩
    rw [← hr2] at K1 hpd;have HPD:=Hd hpd;have HEN:=Hd hen;have HSX:=Hd hS;have HX:=Hd hx;clear hpd hen hr2 hx hS hy;(go_wp2_with fail);refine K1.mono ?_;rintro en w5 ⟨rfl,v5,hk5,ht5⟩;have HI5:=Hd (HI.out.state hk5 ht5);have hy:=HI5.out.y;rw [HCD.out] at hy;have y1':w5.cell? ⟨gd,1,none⟩=some (.slice (some ⟨b,0,none⟩) L1 c1):=ab 1 hy;obtain ⟨b2,x2,e1,e2,cx'⟩:=nm_at (v:=.slice none 0 0) HI5.out.p hlt;cases e1;rw [HX.out] at e2;cases e2;rw [← HSX.out] at cx';have hO6:Only [] w5 (w5.alloc (.cells #[.string S,.int .i64 1] 123)):=(Only.refl [] w5).alloc _;have hN6:=ag w5 (.cells #[.string S,.int .i64 1] 123);have HO6:=Hd hO6;have HN6:=Hd hN6;clear hk5 ht5 hy K1 y1 cx hO6 hN6;go_wp2_with (refine eA rfl (.tmp 34) (.tmp 41) rfl (.slice ua ej.length uc) ej (by rfl) (HI5.out.b.e.kept HO6.out (by simp)) w5.heap.size 1 (by rfl) (x,1) (by rw [← HSX.out];exact ab 0 HN6.out) (ab 1 HN6.out) (by omega) ?_;intro a7 c7 w7 h7 x7;have H7:=Hd (And.intro h7 x7);clear h7 x7)
    obtain ⟨h7,x7⟩:=H7.out;have HI7:=Hd ((HI5.out.quiet HO6.out).grow h7 x7);clear h7 x7 H7;(try go_roundw)
    case rel=>exact ⟨j+1,v5,r2,ej++[(x,1)],by omega,by go_num,HI7,HPD,HEN⟩
    case measure=>simp [intOf];omega
   ·obtain rfl:L1=j:=by omega
    have hge:¬ (L1:Int) < (L1:Int):=by omega
    have hpr:rj=iA RS.new d.params:=by rw [HP1.out,HL.out.1,List.drop_length];rfl
    have hej:ej=iB d.params:=by rw [HE1.out,HL.out.1,List.take_length]
    have HPR:=Hd hpr;have HEJ:=Hd hej;clear hpr hej HP1 HE1 hlt;have y3:wr.cell? ⟨gd,3,none⟩=some (.slice a3 L3 c3):=ab 3 hy;have K1:=tI 1000000 (Nat.le_refl _) d.body (by omega) wr _ BB HI.out.s;obtain ⟨T0,hT0⟩:∃ T,T=km 0 d.body:=⟨_,rfl⟩
    rw [← hT0] at K1;have HT0:=Hd hT0;clear hy hT0;(go_wp2_with fail);refine K1.mono ?_;rintro en w5 ⟨rfl,o5⟩;have HI5:=Hd (HI.out.quiet o5);clear K1 o5 y1 y3 HI;obtain ⟨EV,hEV⟩:∃ EV,EV=iB d.params:=⟨_,rfl⟩
    obtain ⟨EL,hEL⟩:∃ EL,EL=ej.length:=⟨_,rfl⟩
    obtain ⟨RZ,hRZ⟩:∃ RZ,RZ=refN d:=⟨_,rfl⟩
    obtain ⟨TZ,hTZ⟩:∃ TZ,TZ=tV T0 d.needs:=⟨_,rfl⟩
    have HEVS:=Hd (show EV.length+ah d.body≤999000 by rw [hEV];simp [iB];have:=HL.out.1;omega);have HEVL:=Hd (show EV.length≤1000000 by rw [hEV];simp [iB];have:=HL.out.1;omega);have hje:ej=EV:=by rw [HEJ.out,hEV]
    subst hje;rw [← hEL] at HI5⊢;obtain ⟨TA,hTA⟩:∃ TA,TA=T0:=⟨_,rfl⟩
    have HRZ:=Hd (show RZ=dE 2 ej rj d.needs by rw [hRZ,hEV,HPR.out];rfl);have HTZ:=Hd (show TZ=tV TA d.needs by rw [hTZ,hTA]);have HTZ0:=Hd hTZ;have HRZ0:=Hd hRZ;have HEV:=Hd hEV;have HEL:=Hd hEL;rw [← hTA];clear hRZ hTZ hEV hEL hTA;go_wp2_with fail
    go_loopw [8,9] (fun st ix wr=>∃ (j:Nat) (T:Int) (vj:Value) (rj:RS),j≤L2∧ix=.int .i64 (j:Int)∧st=.int .i64 T∧Hid (DI w w1 wr gd gi g BB d cd (.slice a1 L1 c1) (.slice a2 L2 c2) (.slice a3 L3 c3) (.slice a4 L4 c4) vj rj (.slice ua EL uc) ej)∧Hid (RZ=dE 2 ej rj (d.needs.drop j))∧Hid (TZ=tV T (d.needs.drop j))) (fun _ ix _=>L2 - (intOf ix).toNat)
    case atStart=>exact ⟨0,TA,_,_,Nat.zero_le _,rfl,rfl,HI5,Hd (by rw [List.drop_zero];exact HRZ.out),Hd (by rw [List.drop_zero];exact HTZ.out)⟩
    case round=>
     obtain ⟨j,T,vj,rj,hj1,rfl,rfl,HI,HR1,HT1⟩:=hrel;have hy:=HI.out.y;rw [HCD.out] at hy;have y1:wr.cell? ⟨gd,2,none⟩=some (.slice a2 L2 c2):=ab 2 hy
     by_cases hlt:j < L2
     ·have hlt':(j:Int) < (L2:Int):=by omega
      have j0:(0:Int)≤(j:Int):=by omega
      obtain ⟨-,gr,k',nn',nm',zs,p',a',c',haq,hq0,z0,z1,z2,z3,z4,hv'⟩:=HI.out.n.elem hlt;cases haq;have hsq:=bu hq0;have hr:=HR1.out;have ht:=HT1.out;rw [kn hq0] at hr;rw [oo hq0] at ht;obtain ⟨e',hee⟩:∃ e',e'=E.mk k' nn' nm' zs p':=⟨_,rfl⟩
      obtain ⟨sn',hsn'⟩:∃ s,s=ai nm':=⟨_,rfl⟩
      obtain ⟨L,hL⟩:∃ L,L=zs.length:=⟨_,rfl⟩
      have hev:EV wr BB e' [.int .i64 k',.int .i64 nn',.string sn',.slice a' L c',.int .i64 p']:=by rw [hee,hsn',hL];exact EV.mk' hv'
      have hcells:∀ W,EsV W BB (.slice (some ⟨gr,0,none⟩) L2 c2) d.needs→∃ aa cc,W.cell? ⟨gr,j*5,none⟩=some (.int .i64 k')∧W.cell? ⟨gr,j*5+1,none⟩=some (.int .i64 nn')∧W.cell? ⟨gr,j*5+2,none⟩=some (.string sn')∧W.cell? ⟨gr,j*5+3,none⟩=some (.slice aa L cc)∧W.cell? ⟨gr,j*5+4,none⟩=some (.int .i64 p')∧EV W BB e' [.int .i64 k',.int .i64 nn',.string sn',.slice aa L cc,.int .i64 p']:=fun W hW=>by
       obtain ⟨-,gr2,k2,nn2,nm2,zs2,p2,a2',c2',e1,e2,q0,q1,q2,q3,q4,q5⟩:=hW.elem hlt;cases e1;rw [hq0] at e2;cases e2;rw [hee,hsn',hL];exact ⟨a2',c2',q0,q1,q2,q3,q4,EV.mk' q5⟩
      rw [← hee] at hsq hr ht;rw [← hsn'] at z2;rw [← hL] at z3;obtain ⟨r2,hr2⟩:∃ r2,r2=bp rj e' 2 ej:=⟨_,rfl⟩
      obtain ⟨Z,hZ⟩:∃ Z,Z=aw e':=⟨_,rfl⟩
      have K1:=eT HI.out.b.k hev (by omega) HB.out HI.out.b.e HEVL.out 2;rw [← hr2] at K1 hr;rw [← hZ] at ht;have HR2:=Hd hr;have HT2:=Hd ht;have HC2:=Hd hcells;have HZ2:=Hd hZ;have hsz1:aw e'≤1000000:=by omega
      clear hq0 hsq hr ht hsn' hL hee hev hcells hr2 hZ hv' hy;(go_wp2_with fail);refine K1.mono ?_;rintro en w5 ⟨rfl,v5,hk5,ht5⟩;have HI6:=Hd (HI.out.state hk5 ht5);obtain ⟨aa,cc,z0',z1',z2',z3',z4',hev'⟩:=HC2.out w5 HI6.out.n;have hy:=HI6.out.y;rw [HCD.out] at hy;have y1':w5.cell? ⟨gd,2,none⟩=some (.slice (some ⟨gr,0,none⟩) L2 c2):=ab 2 hy;have K2:=kh 1000000 (Nat.le_refl _) e' hsz1 w5 _ BB hev';rw [← HZ2.out] at K2;clear hk5 ht5 hy K1 y1 z0 z1 z2 z3 z4 hev';(go_wp2_with fail);refine K2.mono ?_;rintro en w6 ⟨rfl,o6⟩;have HI7:=Hd (HI6.out.quiet o6);clear K2 o6 y1' z0' z1' z2' z3' z4';(go_wp2_with fail);(try go_roundw)
      case rel=>exact ⟨j+1,wrap64 (T+(Z:Nat)),v5,r2,by omega,by go_num,rfl,HI7,HR2,HT2⟩
      case measure=>simp [intOf];omega
     ·obtain rfl:L2=j:=by omega
      have hge:¬ (L2:Int) < (L2:Int):=by omega
      have hrz:RZ=rj:=by rw [HR1.out,HL.out.2.1,List.drop_length];rfl
      have htz:TZ=T:=by rw [HT1.out,HL.out.2.1,List.drop_length];rfl
      have HRJ:=Hd hrz;have HTJ:=Hd htz;clear hrz htz HR1 HT1 hlt;have y3:wr.cell? ⟨gd,3,none⟩=some (.slice a3 L3 c3):=ab 3 hy;have hbs:ah d.body≤480:=by omega
      have K3:=tJ 1000000 (Nat.le_refl _) d.body (by omega) wr gd g vj rj _ BB ej _ HI.out.b.k HW.out.body HI.out.s HB.out HI.out.b.e (by have:=HEVS.out;omega);obtain ⟨r5,hr5⟩:∃ x,x=(ay rj d.body ej).1:=⟨_,rfl⟩
      obtain ⟨ek,hek⟩:∃ x,x=(ay rj d.body ej).2:=⟨_,rfl⟩
      have hrb:r5=(refB d).1∧ek=(refB d).2:=by
       rw [hr5,hek];unfold refB;rw [← HRZ0.out,HRJ.out,← HEV.out];exact ⟨rfl,rfl⟩
      clear hy;(go_wp2_with fail);refine K3.mono ?_;rintro en w5 ⟨ve5,v5,rfl,hb5⟩;rw [← hr5,← hek] at hb5;have hdi5:=HI.out.block hb5;obtain ⟨ub,ud,rfl⟩:=hdi5.b.e.shape;obtain ⟨EM,hEM⟩:∃ x,x=ek.length:=⟨_,rfl⟩
      rw [← hEM] at hdi5⊢;have hekl:ek.length≤1000000:=by
       have hq:=lK d.body rj ej;rw [← hek] at hq;have hq2:=bg d.body;have:=HEVS.out;omega
      have HI5:=Hd hdi5;have HEVM:=Hd hekl;have HRB:=Hd hrb;obtain ⟨RY,hRY⟩:∃ RY,RY=refG d:=⟨_,rfl⟩
      obtain ⟨TY,hTY⟩:∃ TY,TY=totW d:=⟨_,rfl⟩
      have HRY:=Hd (show RY=dE 1 ek r5 d.give by rw [hRY,hrb.1,hrb.2];rfl);have HTY:=Hd (show TY=tV T d.give by rw [hTY];unfold totW;rw [← HT0.out,← HTJ.out,HTZ0.out]);have HRY0:=Hd hRY;have HTY0:=Hd hTY;clear hr5 hek hrb hb5 hdi5 hEM hekl hRY hTY K3 y1 y3;go_wp2_with fail
      go_loopw [8,10] (fun st ix wr=>∃ (j:Nat) (T:Int) (vj:Value) (rj:RS),j≤L4∧ix=.int .i64 (j:Int)∧st=.int .i64 T∧Hid (DI w w1 wr gd gi g BB d cd (.slice a1 L1 c1) (.slice a2 L2 c2) (.slice a3 L3 c3) (.slice a4 L4 c4) vj rj (.slice ub EM ud) ek)∧Hid (RY=dE 1 ek rj (d.give.drop j))∧Hid (TY=tV T (d.give.drop j))) (fun _ ix _=>L4 - (intOf ix).toNat)
      case atStart=>exact ⟨0,T,_,_,Nat.zero_le _,rfl,rfl,HI5,Hd (by rw [List.drop_zero];exact HRY.out),Hd (by rw [List.drop_zero];exact HTY.out)⟩
      case round=>
       obtain ⟨j,T,vj,rj,hj1,rfl,rfl,HI,HR1,HT1⟩:=hrel;have hy:=HI.out.y;rw [HCD.out] at hy;have y1:wr.cell? ⟨gd,4,none⟩=some (.slice a4 L4 c4):=ab 4 hy
       by_cases hlt:j < L4
       ·have hlt':(j:Int) < (L4:Int):=by omega
        have j0:(0:Int)≤(j:Int):=by omega
        obtain ⟨-,gr,k',nn',nm',zs,p',a',c',haq,hq0,z0,z1,z2,z3,z4,hv'⟩:=HI.out.e.elem hlt;cases haq;have hsq:=bu hq0;have hr:=HR1.out;have ht:=HT1.out;rw [kn hq0] at hr;rw [oo hq0] at ht;obtain ⟨e',hee⟩:∃ e',e'=E.mk k' nn' nm' zs p':=⟨_,rfl⟩
        obtain ⟨sn',hsn'⟩:∃ s,s=ai nm':=⟨_,rfl⟩
        obtain ⟨L,hL⟩:∃ L,L=zs.length:=⟨_,rfl⟩
        have hev:EV wr BB e' [.int .i64 k',.int .i64 nn',.string sn',.slice a' L c',.int .i64 p']:=by rw [hee,hsn',hL];exact EV.mk' hv'
        have hcells:∀ W,EsV W BB (.slice (some ⟨gr,0,none⟩) L4 c4) d.give→∃ aa cc,W.cell? ⟨gr,j*5,none⟩=some (.int .i64 k')∧W.cell? ⟨gr,j*5+1,none⟩=some (.int .i64 nn')∧W.cell? ⟨gr,j*5+2,none⟩=some (.string sn')∧W.cell? ⟨gr,j*5+3,none⟩=some (.slice aa L cc)∧W.cell? ⟨gr,j*5+4,none⟩=some (.int .i64 p')∧EV W BB e' [.int .i64 k',.int .i64 nn',.string sn',.slice aa L cc,.int .i64 p']:=fun W hW=>by
         obtain ⟨-,gr2,k2,nn2,nm2,zs2,p2,a2',c2',e1,e2,q0,q1,q2,q3,q4,q5⟩:=hW.elem hlt;cases e1;rw [hq0] at e2;cases e2;rw [hee,hsn',hL];exact ⟨a2',c2',q0,q1,q2,q3,q4,EV.mk' q5⟩
        rw [← hee] at hsq hr ht;rw [← hsn'] at z2;rw [← hL] at z3;obtain ⟨r2,hr2⟩:∃ r2,r2=bp rj e' 1 ek:=⟨_,rfl⟩
        obtain ⟨Z,hZ⟩:∃ Z,Z=aw e':=⟨_,rfl⟩
        have K1:=eT HI.out.b.k hev (by omega) HB.out HI.out.b.e HEVM.out 1;rw [← hr2] at K1 hr;rw [← hZ] at ht;have HR2:=Hd hr;have HT2:=Hd ht;have HC2:=Hd hcells;have HZ2:=Hd hZ;have hsz1:aw e'≤1000000:=by omega
        clear hq0 hsq hr ht hsn' hL hee hev hcells hr2 hZ hv' hy;(go_wp2_with fail);refine K1.mono ?_;rintro en w5 ⟨rfl,v5,hk5,ht5⟩;have HI6:=Hd (HI.out.state hk5 ht5);obtain ⟨aa,cc,z0',z1',z2',z3',z4',hev'⟩:=HC2.out w5 HI6.out.e;have hy:=HI6.out.y;rw [HCD.out] at hy;have y1':w5.cell? ⟨gd,4,none⟩=some (.slice (some ⟨gr,0,none⟩) L4 c4):=ab 4 hy;have K2:=kh 1000000 (Nat.le_refl _) e' hsz1 w5 _ BB hev';rw [← HZ2.out] at K2;clear hk5 ht5 hy K1 y1 z0 z1 z2 z3 z4 hev';(go_wp2_with fail);refine K2.mono ?_;rintro en w6 ⟨rfl,o6⟩;have HI7:=Hd (HI6.out.quiet o6);clear K2 o6 y1' z0' z1' z2' z3' z4';(go_wp2_with fail);(try go_roundw)
        case rel=>exact ⟨j+1,wrap64 (T+(Z:Nat)),v5,r2,by omega,by go_num,rfl,HI7,HR2,HT2⟩
        case measure=>simp [intOf];omega
       ·obtain rfl:L4=j:=by omega
        have hge:¬ (L4:Int) < (L4:Int):=by omega
        have hrz:RY=rj:=by rw [HR1.out,HL.out.2.2.2,List.drop_length];rfl
        have htz:TY=T:=by rw [HT1.out,HL.out.2.2.2,List.drop_length];rfl
        have HRJ:=Hd hrz;have HTJ:=Hd htz;clear hrz htz HR1 HT1 hlt;obtain rfl:TY=T:=HTJ.out;obtain rfl:RY=rj:=HRJ.out;have hag:Agree (opG CS.new d) RY (refB d).2:=by rw [HRY0.out];exact ff HW.out (by rw [← HL.out.1];omega)
        have HAG:=Hd hag;clear hag HRJ HTJ;obtain ⟨fl,hfl⟩:∃ fl,fl=(opG CS.new d).flt:=⟨_,rfl⟩
        have HFL:=Hd hfl;clear hfl;rcases fl with _ | ⟨cf,pf⟩
        ·have hft:=totW_few HW.out (vC HW.out HP.out HFL.out.symm);obtain ⟨N,hN⟩:∃ N:Nat,N=fd 0 d.body+ak d.needs+ak d.give:=⟨_,rfl⟩
         rw [← HTY0.out,← hN] at hft;obtain ⟨htn,hsd⟩:=hft;have HSD:=Hd hsd;subst htn;clear hsd hN
         by_cases hbig:2048 < N
         ·have hbig':(2048:Int) < (N:Int):=by omega
          have HCC:=Hd (show C=(pK,11,0) by rw [HC.out];exact xx HFL.out.symm (by rw [HSD.out];omega));have K5:=cF HI.out.b.k 11 0;have hr11:(RY.fail 11 0).bad (11,0):=by
           unfold RS.fail;rw [if_pos (HAG.out.good HFL.out.symm).1];exact ⟨rfl,rfl,by decide⟩
          obtain ⟨r9,hr9⟩:∃ r9,r9=RY.fail 11 0:=⟨_,rfl⟩
          rw [← hr9] at K5 hr11;have HBD:=Hd hr11;clear hr9 hr11 hy;obtain ⟨cf,hcf⟩:∃ c:Int,c=11:=⟨_,rfl⟩
          obtain ⟨pf,hpf⟩:∃ c:Int,c=0:=⟨_,rfl⟩
          have HCF:=Hd (And.intro hcf hpf);clear hcf hpf;(go_wp2_with fail);refine K5.mono ?_;rintro en w5 ⟨rfl,hk5,ht5⟩;have HI5:=Hd (HI.out.state hk5 ht5);clear hk5 ht5 K5 y1;rw [← HCF.out.1,← HCF.out.2] at HBD HCC;have hrow:=HI5.out.b.k.row;have kc1:w5.cell? ⟨g,1,none⟩=some (.int .i64 r9.code):=ab 1 hrow;have kc2:w5.cell? ⟨g,2,none⟩=some (.int .i64 r9.at_):=ab 2 hrow;have HZ:=Hd HI5.out.z;have HO1:=Hd HI5.out.o;rw [HBD.out.1] at kc1;rw [HBD.out.2.1] at kc2;have hc0:=HBD.out.2.2;simp only at kc1 kc2 hc0;clear hrow;(go_upto_region 25 with (fail));have oD:Only [] w5 (w5).drew:=(Only.refl [] w5).drew;refine wp_region_held_drew (S:=fun w'=>w'.cell? ⟨g,1,none⟩=some (.int .i64 cf)∧w'.cell? ⟨g,2,none⟩=some (.int .i64 pf)) (by kernel_rfl) ⟨ae oD kc1 (by simp),ae oD kc2 (by simp)⟩ (fun hH=>?_);replace HZ:=Hd (oD.heap HZ.out (by simp));replace HO1:=Hd (HO1.out.trans oD (by simp));clear oD kc1 kc2;generalize (w5).drew=wd at HZ HO1 hH⊢;have H12:=Hd hH;refine tk 0 hH ?_;refine tk 1 hH ?_;refine tk 2 hH ?_;refine tk 3 hH ?_;refine tk 4 hH ?_;refine tk 5 hH ?_;refine tk 6 hH ?_;refine tk 7 hH ?_;refine tk 8 hH ?_;have s0:wd.cell? ⟨gi,0,none⟩=some (.int .i64 0):=ab 0 HZ.out;have s1:wd.cell? ⟨gi,1,none⟩=some (.int .i64 0):=ab 1 HZ.out;have s2:wd.cell? ⟨gi,2,none⟩=some (.int .i64 0):=ab 2 HZ.out;have s3:wd.cell? ⟨gi,3,none⟩=some (.bool false):=ab 3 HZ.out;have gs0:=ac 0 HZ.out;have gs1:=ac 1 HZ.out;have gs2:=ac 2 HZ.out;have gs3:=ac 3 HZ.out;clear hH;refine rd 9 (fun K hK=>?_);go_simp;have oz:Only [gi] wd ((((wd.setCell ⟨gi,0,none⟩ (.int .i64 0)).setCell ⟨gi,1,none⟩ (.int .i64 0)).setCell ⟨gi,2,none⟩ (.int .i64 0)).setCell ⟨gi,3,none⟩ (.bool false)):=oc;have hz:=aF HZ.out (.int .i64 0) (.int .i64 0) (.int .i64 0) (.bool false);generalize (((wd.setCell ⟨gi,0,none⟩ (.int .i64 0)).setCell ⟨gi,1,none⟩ (.int .i64 0)).setCell ⟨gi,2,none⟩ (.int .i64 0)).setCell ⟨gi,3,none⟩ (.bool false)=wz at oz hz⊢;refine hK.out _ _ ⟨ae oz H12.out.1 (by simp;omega),ae oz H12.out.2 (by simp;omega)⟩ (fun hH=>?_);clear hK K s0 s1 s2 s3 gs0 gs1 gs2 gs3;refine tk 10 hH ?_;refine tk 11 hH ?_;refine wpAnyH_done (by kernel_rfl) ?_ _;clear hH;(go_wp2_with fail);(try simp only [Exit.inBlock,Exit.then]);refine bodyPost_ret (bT _ _ gi _ _ _ _ (.int .i64 cf) (.int .i64 pf) rfl rfl rfl hz) rfl ?_;exact ⟨by rw [HCC.out];rfl,HO1.out.trans (T:=[gi]) oz (fun k hk=>.inr (by have:=HG.out.2.1;rw [List.mem_singleton.1 hk];omega))⟩
         ·have hbig':¬ (2048:Int) < (N:Int):=by omega
          have hrow:=HI.out.b.k.row;have kc1:wr.cell? ⟨g,1,none⟩=some (.int .i64 RY.code):=ab 1 hrow;have kc2:wr.cell? ⟨g,2,none⟩=some (.int .i64 RY.at_):=ab 2 hrow;have HZ:=Hd HI.out.z;have HO1:=Hd HI.out.o;rw [(HAG.out.good HFL.out.symm).1] at kc1;obtain ⟨va,vc,hvj⟩:=HI.out.b.k.own.shape;obtain ⟨D,hD⟩:∃ D,D=RY.decl.length:=⟨_,rfl⟩
          obtain ⟨b22,hb22⟩:∃ b,b=eN 2 2 d.body:=⟨_,rfl⟩
          obtain ⟨rb,hrb⟩:∃ b,b=dR d.body:=⟨_,rfl⟩
          obtain ⟨TU,hTU⟩:∃ b,b=(!b22 && !rb):=⟨_,rfl⟩
          have HCG:=Hd (show C=(⟨fL d,N,D,TU⟩,0,0) by
           rw [HC.out,chk_good HW.out HP.out HFL.out.symm (by rw [HSD.out];omega),hTU,hb22,hrb,hD,← (HAG.out.good HFL.out.symm).2.1,HSD.out,show min N 2049=N by omega])
          have HC0:=Hd (show wr.cell? ⟨g,0,none⟩=some (.slice va D vc) by rw [hD,← hvj];exact ab 0 hrow);have HY2:=Hd (show wr.cell? ⟨gd,2,none⟩=some (.slice a2 L2 c2) from ab 2 hy);have HY3:=Hd (show wr.cell? ⟨gd,3,none⟩=some (.slice a3 L3 c3) from ab 3 hy);have HY4:=Hd (show wr.cell? ⟨gd,4,none⟩=some (.slice a4 L4 c4) from ab 4 hy);have KH:Hid (∀ W,Only [] wr W→Calls Tryz.prog 63 #[.slice a3 L3 c3,.int .i64 2,.int .i64 2] W fun en w'=>en=.returned (.bool b22)∧Only [] W w'):=Hd (fun W hW=>by rw [hb22];exact mr 2 2 1000000 (Nat.le_refl _) d.body (by omega) W _ BB (HI.out.s.quiet hW));have KH25:Hid (∀ W,Only [] wr W→Calls Tryz.prog 63 #[.slice a3 L3 c3,.int .i64 2,.int .i64 5] W fun en w'=>en=.returned (.bool (eN 2 5 d.body))∧Only [] W w'):=Hd (fun W hW=>mr 2 5 1000000 (Nat.le_refl _) d.body (by omega) W _ BB (HI.out.s.quiet hW));have KH55:Hid (∀ W,Only [] wr W→Calls Tryz.prog 63 #[.slice a3 L3 c3,.int .i64 5,.int .i64 5] W fun en w'=>en=.returned (.bool (eN 5 5 d.body))∧Only [] W w'):=Hd (fun W hW=>mr 5 5 1000000 (Nat.le_refl _) d.body (by omega) W _ BB (HI.out.s.quiet hW));have KR:Hid (∀ W,Only [] wr W→Calls Tryz.prog 64 #[.slice a3 L3 c3] W fun en w'=>en=.returned (.bool rb)∧Only [] W w'):=Hd (fun W hW=>by rw [hrb];exact vR 1000000 (Nat.le_refl _) d.body (by omega) W _ BB (HI.out.s.quiet hW));have KC2:Hid (∀ W,Only [] wr W→Calls Tryz.prog 65 #[.slice a2 L2 c2] W fun en w'=>en=.returned (.bool (cR d.needs))∧Only [] W w'):=Hd (fun W hW=>jK 1000000 (Nat.le_refl _) d.needs (by omega) W _ BB (HI.out.n.quiet hW));have KC4:Hid (∀ W,Only [] wr W→Calls Tryz.prog 65 #[.slice a4 L4 c4] W fun en w'=>en=.returned (.bool (cR d.give))∧Only [] W w'):=Hd (fun W hW=>jK 1000000 (Nat.le_refl _) d.give (by omega) W _ BB (HI.out.e.quiet hW));have HB22:=Hd hb22;have HRBB:=Hd hrb;have HTU:=Hd hTU;clear hrow hvj hD hb22 hrb hTU hy;(go_upto_region 26 with (fail));clear kc1 kc2 y1
          go_cut [11] from 115 to 131 (fun s11 wx=>∃ gq,s11=.pointer (some ⟨gq,0,none⟩)∧Hid (Only [] wr wx)∧Hid (wr.heap.size≤gq)∧Hid (wx.heap[gq]?=some (.cells #[.int .i64 1,.int .i64 (N:Int),.int .i64 (D:Int),.bool TU] 64 (0,0))))
          case first=>
           have oD:Only [] wr wr.drew:=(Only.refl [] wr).drew;refine wp_region_held_drew (S:=fun w'=>Only [] wr w'∧w'.cell? ⟨g,0,none⟩=some (.slice va D vc)∧w'.cell? ⟨gd,3,none⟩=some (.slice a3 L3 c3)) (by kernel_rfl) ⟨oD,ae oD HC0.out (by simp),ae oD HY3.out (by simp)⟩ (fun hH=>?_);generalize wr.drew=wd at oD hH⊢;have HOZ:=Hd oD;clear oD;refine tk 0 hH ?_;refine tk 1 hH ?_;refine tk 2 hH ?_;refine tk 3 hH ?_;refine tk 4 hH ?_;refine tk 5 hH ?_;refine tk 6 hH ?_;refine tk 7 hH ?_;refine wpAnyH_ready (rs:=[8,17]) (by kernel_rfl) (by simp) ?_;refine bU rfl rfl (fun K hK=>?_) (fun K hK=>?_)
           ·go_simp;refine (KH.out wd HOZ.out).mono ?_;rintro en wa ⟨rfl,o8⟩
            skip
            replace HOZ:=Hd (HOZ.out.trans o8 (by simp));refine hK.out _ _ ⟨HOZ.out,ae HOZ.out HC0.out (by simp),ae HOZ.out HY3.out (by simp)⟩ (fun hH=>?_);clear hK K o8;cases b22
            ·
             refine tk 9 hH ?_;refine tk 10 hH ?_;refine tk 11 hH ?_;refine tk 12 hH ?_;refine wpAnyH_ready (rs:=[13,17]) (by kernel_rfl) (by simp) ?_;refine bU rfl rfl (fun K hK=>?_) (fun K hK=>?_)
             ·go_simp;refine (KR.out wa HOZ.out).mono ?_;rintro en wb ⟨rfl,o9⟩
              skip
              replace HOZ:=Hd (HOZ.out.trans o9 (by simp));refine hK.out _ _ ⟨HOZ.out,ae HOZ.out HC0.out (by simp),ae HOZ.out HY3.out (by simp)⟩ (fun hH=>?_);clear hK K o9;refine tk 14 hH ?_;refine tk 15 hH ?_;refine tk 16 hH ?_;refine rd 17 (fun K hK=>?_);go_simp;obtain ⟨wc,q9,oA,hA,-⟩:=nb wb (.cells #[.int .i64 0,.int .i64 0,.int .i64 0,.bool false] 64);rw [← q9];clear q9;obtain ⟨gq,hgq⟩:∃ gq,gq=wb.heap.size:=⟨_,rfl⟩
              rw [← hgq] at hA⊢;have HQ:=Hd hA;have HGQ:=Hd (show wr.heap.size≤gq by rw [hgq];exact HOZ.out.size);replace HOZ:=Hd (HOZ.out.trans oA (by simp));refine hK.out _ _ ⟨HOZ.out,ae HOZ.out HC0.out (by simp),ae HOZ.out HY3.out (by simp)⟩ (fun hH=>?_);clear hK K oA hA hgq;have q0:wc.cell? ⟨gq,0,none⟩=some (.int .i64 0):=ab 0 HQ.out;have q1:wc.cell? ⟨gq,1,none⟩=some (.int .i64 0):=ab 1 HQ.out;have q2:wc.cell? ⟨gq,2,none⟩=some (.int .i64 0):=ab 2 HQ.out;have q3:wc.cell? ⟨gq,3,none⟩=some (.bool false):=ab 3 HQ.out;have gq0:=ac 0 HQ.out;have gq1:=ac 1 HQ.out;have gq2:=ac 2 HQ.out;have gq3:=ac 3 HQ.out;clear hH;refine rd 18 (fun K hK=>?_);go_simp;have oz:Only [] wr ((((wc.setCell ⟨gq,0,none⟩ (.int .i64 1)).setCell ⟨gq,1,none⟩ (.int .i64 (N:Int))).setCell ⟨gq,2,none⟩ (.int .i64 (D:Int))).setCell ⟨gq,3,none⟩ (.bool (!rb))):=
               (((HOZ.out.setCell (.inr HGQ.out) _).setCell (.inr HGQ.out) _).setCell (.inr HGQ.out) _).setCell (.inr HGQ.out) _
              have hz:=aF HQ.out (.int .i64 1) (.int .i64 (N:Int)) (.int .i64 (D:Int)) (.bool (!rb));generalize (((wc.setCell ⟨gq,0,none⟩ (.int .i64 1)).setCell ⟨gq,1,none⟩ (.int .i64 (N:Int))).setCell ⟨gq,2,none⟩ (.int .i64 (D:Int))).setCell ⟨gq,3,none⟩ (.bool (!rb))=wz at oz hz⊢;refine hK.out _ _ ⟨oz,ae oz HC0.out (by simp),ae oz HY3.out (by simp)⟩ (fun hH=>?_);clear hK K q0 q1 q2 q3 gq0 gq1 gq2 gq3;refine wpAnyH_done (by kernel_rfl) ?_ _;clear hH;go_wp2_with fail
              go_meet
              exact ⟨gq,rfl,Hd oz,HGQ,Hd (by rw [show TU=(!rb) by rw [HTU.out];rfl];exact hz)⟩
             ·go_simp;obtain ⟨wb,q9,oA,hA,-⟩:=nb wa (.cells #[.int .i64 0,.int .i64 0,.int .i64 0,.bool false] 64);rw [← q9];clear q9;obtain ⟨gq,hgq⟩:∃ gq,gq=wa.heap.size:=⟨_,rfl⟩
              rw [← hgq] at hA⊢;have HQ:=Hd hA;have HGQ:=Hd (show wr.heap.size≤gq by rw [hgq];exact HOZ.out.size);replace HOZ:=Hd (HOZ.out.trans oA (by simp));refine hK.out _ _ ⟨HOZ.out,ae HOZ.out HC0.out (by simp),ae HOZ.out HY3.out (by simp)⟩ (fun hH=>?_);clear hK K oA hA hgq;refine rd 13 (fun K hK=>?_);go_simp;refine (KR.out wb HOZ.out).mono ?_;rintro en wc ⟨rfl,o9⟩;replace HQ:=Hd (o9.heap HQ.out (by simp));replace HOZ:=Hd (HOZ.out.trans o9 (by simp));refine hK.out _ _ ⟨HOZ.out,ae HOZ.out HC0.out (by simp),ae HOZ.out HY3.out (by simp)⟩ (fun hH=>?_);clear hK K o9;refine tk 14 hH ?_;refine tk 15 hH ?_;refine tk 16 hH ?_;have q0:wc.cell? ⟨gq,0,none⟩=some (.int .i64 0):=ab 0 HQ.out;have q1:wc.cell? ⟨gq,1,none⟩=some (.int .i64 0):=ab 1 HQ.out;have q2:wc.cell? ⟨gq,2,none⟩=some (.int .i64 0):=ab 2 HQ.out;have q3:wc.cell? ⟨gq,3,none⟩=some (.bool false):=ab 3 HQ.out;have gq0:=ac 0 HQ.out;have gq1:=ac 1 HQ.out;have gq2:=ac 2 HQ.out;have gq3:=ac 3 HQ.out;clear hH;refine rd 18 (fun K hK=>?_);go_simp;have oz:Only [] wr ((((wc.setCell ⟨gq,0,none⟩ (.int .i64 1)).setCell ⟨gq,1,none⟩ (.int .i64 (N:Int))).setCell ⟨gq,2,none⟩ (.int .i64 (D:Int))).setCell ⟨gq,3,none⟩ (.bool (!rb))):=
               (((HOZ.out.setCell (.inr HGQ.out) _).setCell (.inr HGQ.out) _).setCell (.inr HGQ.out) _).setCell (.inr HGQ.out) _
              have hz:=aF HQ.out (.int .i64 1) (.int .i64 (N:Int)) (.int .i64 (D:Int)) (.bool (!rb));generalize (((wc.setCell ⟨gq,0,none⟩ (.int .i64 1)).setCell ⟨gq,1,none⟩ (.int .i64 (N:Int))).setCell ⟨gq,2,none⟩ (.int .i64 (D:Int))).setCell ⟨gq,3,none⟩ (.bool (!rb))=wz at oz hz⊢;refine hK.out _ _ ⟨oz,ae oz HC0.out (by simp),ae oz HY3.out (by simp)⟩ (fun hH=>?_);clear hK K q0 q1 q2 q3 gq0 gq1 gq2 gq3;refine wpAnyH_done (by kernel_rfl) ?_ _;clear hH;go_wp2_with fail
              go_meet
              exact ⟨gq,rfl,Hd oz,HGQ,Hd (by rw [show TU=(!rb) by rw [HTU.out];rfl];exact hz)⟩
            ·
             refine tk 9 hH ?_;refine tk 10 hH ?_;refine sk 11 hH ?_;refine sk 12 hH ?_;refine sk 13 hH ?_;refine sk 14 hH ?_;refine tk 15 hH ?_;refine tk 16 hH ?_;refine rd 17 (fun K hK=>?_);go_simp;obtain ⟨wb,q9,oA,hA,-⟩:=nb wa (.cells #[.int .i64 0,.int .i64 0,.int .i64 0,.bool false] 64);rw [← q9];clear q9;obtain ⟨gq,hgq⟩:∃ gq,gq=wa.heap.size:=⟨_,rfl⟩
             rw [← hgq] at hA⊢;have HQ:=Hd hA;have HGQ:=Hd (show wr.heap.size≤gq by rw [hgq];exact HOZ.out.size);replace HOZ:=Hd (HOZ.out.trans oA (by simp));refine hK.out _ _ ⟨HOZ.out,ae HOZ.out HC0.out (by simp),ae HOZ.out HY3.out (by simp)⟩ (fun hH=>?_);clear hK K oA hA hgq;have q0:wb.cell? ⟨gq,0,none⟩=some (.int .i64 0):=ab 0 HQ.out;have q1:wb.cell? ⟨gq,1,none⟩=some (.int .i64 0):=ab 1 HQ.out;have q2:wb.cell? ⟨gq,2,none⟩=some (.int .i64 0):=ab 2 HQ.out;have q3:wb.cell? ⟨gq,3,none⟩=some (.bool false):=ab 3 HQ.out;have gq0:=ac 0 HQ.out;have gq1:=ac 1 HQ.out;have gq2:=ac 2 HQ.out;have gq3:=ac 3 HQ.out;clear hH;refine rd 18 (fun K hK=>?_);go_simp;have oz:Only [] wr ((((wb.setCell ⟨gq,0,none⟩ (.int .i64 1)).setCell ⟨gq,1,none⟩ (.int .i64 (N:Int))).setCell ⟨gq,2,none⟩ (.int .i64 (D:Int))).setCell ⟨gq,3,none⟩ (.bool false)):=
              (((HOZ.out.setCell (.inr HGQ.out) _).setCell (.inr HGQ.out) _).setCell (.inr HGQ.out) _).setCell (.inr HGQ.out) _
             have hz:=aF HQ.out (.int .i64 1) (.int .i64 (N:Int)) (.int .i64 (D:Int)) (.bool false);generalize (((wb.setCell ⟨gq,0,none⟩ (.int .i64 1)).setCell ⟨gq,1,none⟩ (.int .i64 (N:Int))).setCell ⟨gq,2,none⟩ (.int .i64 (D:Int))).setCell ⟨gq,3,none⟩ (.bool false)=wz at oz hz⊢;refine hK.out _ _ ⟨oz,ae oz HC0.out (by simp),ae oz HY3.out (by simp)⟩ (fun hH=>?_);clear hK K q0 q1 q2 q3 gq0 gq1 gq2 gq3;refine wpAnyH_done (by kernel_rfl) ?_ _;clear hH;go_wp2_with fail
             go_meet
             exact ⟨gq,rfl,Hd oz,HGQ,Hd (by rw [show TU=false by rw [HTU.out];rfl];exact hz)⟩
           ·go_simp;obtain ⟨wa,q9,oA,hA,-⟩:=nb wd (.cells #[.int .i64 0,.int .i64 0,.int .i64 0,.bool false] 64);rw [← q9];clear q9;obtain ⟨gq,hgq⟩:∃ gq,gq=wd.heap.size:=⟨_,rfl⟩
            rw [← hgq] at hA⊢;have HQ:=Hd hA;have HGQ:=Hd (show wr.heap.size≤gq by rw [hgq];exact HOZ.out.size);replace HOZ:=Hd (HOZ.out.trans oA (by simp));refine hK.out _ _ ⟨HOZ.out,ae HOZ.out HC0.out (by simp),ae HOZ.out HY3.out (by simp)⟩ (fun hH=>?_);clear hK K oA hA hgq;refine rd 8 (fun K hK=>?_);go_simp;refine (KH.out wa HOZ.out).mono ?_;rintro en wb ⟨rfl,o8⟩;replace HQ:=Hd (o8.heap HQ.out (by simp));replace HOZ:=Hd (HOZ.out.trans o8 (by simp));refine hK.out _ _ ⟨HOZ.out,ae HOZ.out HC0.out (by simp),ae HOZ.out HY3.out (by simp)⟩ (fun hH=>?_);clear hK K o8;cases b22
            ·
             refine tk 9 hH ?_;refine tk 10 hH ?_;refine tk 11 hH ?_;refine tk 12 hH ?_;refine rd 13 (fun K hK=>?_);go_simp;refine (KR.out wb HOZ.out).mono ?_;rintro en wc ⟨rfl,o9⟩;replace HQ:=Hd (o9.heap HQ.out (by simp));replace HOZ:=Hd (HOZ.out.trans o9 (by simp));refine hK.out _ _ ⟨HOZ.out,ae HOZ.out HC0.out (by simp),ae HOZ.out HY3.out (by simp)⟩ (fun hH=>?_);clear hK K o9;refine tk 14 hH ?_;refine tk 15 hH ?_;refine tk 16 hH ?_;have q0:wc.cell? ⟨gq,0,none⟩=some (.int .i64 0):=ab 0 HQ.out;have q1:wc.cell? ⟨gq,1,none⟩=some (.int .i64 0):=ab 1 HQ.out;have q2:wc.cell? ⟨gq,2,none⟩=some (.int .i64 0):=ab 2 HQ.out;have q3:wc.cell? ⟨gq,3,none⟩=some (.bool false):=ab 3 HQ.out;have gq0:=ac 0 HQ.out;have gq1:=ac 1 HQ.out;have gq2:=ac 2 HQ.out;have gq3:=ac 3 HQ.out;clear hH;refine rd 18 (fun K hK=>?_);go_simp;have oz:Only [] wr ((((wc.setCell ⟨gq,0,none⟩ (.int .i64 1)).setCell ⟨gq,1,none⟩ (.int .i64 (N:Int))).setCell ⟨gq,2,none⟩ (.int .i64 (D:Int))).setCell ⟨gq,3,none⟩ (.bool (!rb))):=
              (((HOZ.out.setCell (.inr HGQ.out) _).setCell (.inr HGQ.out) _).setCell (.inr HGQ.out) _).setCell (.inr HGQ.out) _
             have hz:=aF HQ.out (.int .i64 1) (.int .i64 (N:Int)) (.int .i64 (D:Int)) (.bool (!rb));generalize (((wc.setCell ⟨gq,0,none⟩ (.int .i64 1)).setCell ⟨gq,1,none⟩ (.int .i64 (N:Int))).setCell ⟨gq,2,none⟩ (.int .i64 (D:Int))).setCell ⟨gq,3,none⟩ (.bool (!rb))=wz at oz hz⊢;refine hK.out _ _ ⟨oz,ae oz HC0.out (by simp),ae oz HY3.out (by simp)⟩ (fun hH=>?_);clear hK K q0 q1 q2 q3 gq0 gq1 gq2 gq3;refine wpAnyH_done (by kernel_rfl) ?_ _;clear hH;go_wp2_with fail
             go_meet
             exact ⟨gq,rfl,Hd oz,HGQ,Hd (by rw [show TU=(!rb) by rw [HTU.out];rfl];exact hz)⟩
            ·
             refine tk 9 hH ?_;refine tk 10 hH ?_;refine sk 11 hH ?_;refine sk 12 hH ?_;refine sk 13 hH ?_;refine sk 14 hH ?_;refine tk 15 hH ?_;refine tk 16 hH ?_;have q0:wb.cell? ⟨gq,0,none⟩=some (.int .i64 0):=ab 0 HQ.out;have q1:wb.cell? ⟨gq,1,none⟩=some (.int .i64 0):=ab 1 HQ.out;have q2:wb.cell? ⟨gq,2,none⟩=some (.int .i64 0):=ab 2 HQ.out;have q3:wb.cell? ⟨gq,3,none⟩=some (.bool false):=ab 3 HQ.out;have gq0:=ac 0 HQ.out;have gq1:=ac 1 HQ.out;have gq2:=ac 2 HQ.out;have gq3:=ac 3 HQ.out;clear hH;refine rd 18 (fun K hK=>?_);go_simp;have oz:Only [] wr ((((wb.setCell ⟨gq,0,none⟩ (.int .i64 1)).setCell ⟨gq,1,none⟩ (.int .i64 (N:Int))).setCell ⟨gq,2,none⟩ (.int .i64 (D:Int))).setCell ⟨gq,3,none⟩ (.bool false)):=
              (((HOZ.out.setCell (.inr HGQ.out) _).setCell (.inr HGQ.out) _).setCell (.inr HGQ.out) _).setCell (.inr HGQ.out) _
             have hz:=aF HQ.out (.int .i64 1) (.int .i64 (N:Int)) (.int .i64 (D:Int)) (.bool false);generalize (((wb.setCell ⟨gq,0,none⟩ (.int .i64 1)).setCell ⟨gq,1,none⟩ (.int .i64 (N:Int))).setCell ⟨gq,2,none⟩ (.int .i64 (D:Int))).setCell ⟨gq,3,none⟩ (.bool false)=wz at oz hz⊢;refine hK.out _ _ ⟨oz,ae oz HC0.out (by simp),ae oz HY3.out (by simp)⟩ (fun hH=>?_);clear hK K q0 q1 q2 q3 gq0 gq1 gq2 gq3;refine wpAnyH_done (by kernel_rfl) ?_ _;clear hH;go_wp2_with fail
             go_meet
             exact ⟨gq,rfl,Hd oz,HGQ,Hd (by rw [show TU=false by rw [HTU.out];rfl];exact hz)⟩
          case rest=>
           obtain ⟨gq,rfl,HOC,HGQ,HQ⟩:=hcut;obtain ⟨RD,hRD⟩:∃ b,b=(rb || (cR d.needs || cR d.give)):=⟨_,rfl⟩
           obtain ⟨cn,hcn⟩:∃ b,b=cR d.needs:=⟨_,rfl⟩
           obtain ⟨cg,hcg⟩:∃ b,b=cR d.give:=⟨_,rfl⟩
           obtain ⟨b25,hb25⟩:∃ b,b=eN 2 5 d.body:=⟨_,rfl⟩
           obtain ⟨b55,hb55⟩:∃ b,b=eN 5 5 d.body:=⟨_,rfl⟩
           rw [← hcn,← hcg] at hRD;rw [← hcn] at KC2;rw [← hcg] at KC4;rw [← hb25] at KH25;rw [← hb55] at KH55;have HCN:=Hd hcn;have HCGV:=Hd hcg;have HB25:=Hd hb25;have HB55:=Hd hb55;have HRD:=Hd hRD;clear hRD hcn hcg hb25 hb55;have y3:=ae HOC.out HY3.out (by simp);have K6:=KR.out _ HOC.out;go_upto_region 27 with (fail)
           go_cut [12] from 132 to 144 (fun s12 wx=>s12=.bool RD∧Hid (Only [] wr wx)∧Hid (wx.heap[gq]?=some (.cells #[.int .i64 1,.int .i64 (N:Int),.int .i64 (D:Int),.bool TU] 64 (0,0))))
           case first=>
            (go_wp2_with fail);refine K6.mono ?_;rintro en w9 ⟨rfl,o9⟩;replace HOC:=Hd (HOC.out.trans o9 (by simp));replace HQ:=Hd (o9.heap HQ.out (by simp));have y2:=ae HOC.out HY2.out (by simp);clear y3 K6 o9;cases rb
            ·have K7:=KC2.out _ HOC.out;(go_wp2_with fail);refine K7.mono ?_;rintro en w10 ⟨rfl,o10⟩;replace HOC:=Hd (HOC.out.trans o10 (by simp));replace HQ:=Hd (o10.heap HQ.out (by simp));have y4:=ae HOC.out HY4.out (by simp);clear y2 K7 o10;cases cn
             ·have K8:=KC4.out _ HOC.out;(go_wp2_with fail);refine K8.mono ?_;rintro en w11 ⟨rfl,o11⟩;replace HOC:=Hd (HOC.out.trans o11 (by simp));replace HQ:=Hd (o11.heap HQ.out (by simp));clear y4 K8 o11;go_wp2_with fail
              go_meet
              exact ⟨by rw [HRD.out];rfl,HOC,HQ⟩
             ·go_wp2_with fail
              go_meet
              exact ⟨by rw [HRD.out];rfl,HOC,HQ⟩
            ·go_wp2_with fail
             go_meet
             exact ⟨by rw [HRD.out];rfl,HOC,HQ⟩
           case rest=>
            obtain ⟨rfl,HOE,HQE⟩:=hcut;clear y3 K6 HQ HOC;have y3:=ae HOE.out HY3.out (by simp);have K9:=KH25.out _ HOE.out;(go_wp2_with fail);refine K9.mono ?_;rintro en w12 ⟨rfl,o12⟩;replace HOE:=Hd (HOE.out.trans o12 (by simp));replace HQE:=Hd (o12.heap HQE.out (by simp));clear y3 K9 o12;cases b25
            ·
             have x0:w12.cell? ⟨gq,0,none⟩=some (.int .i64 1):=ab 0 HQE.out;have x1:w12.cell? ⟨gq,1,none⟩=some (.int .i64 (N:Int)):=ab 1 HQE.out;have x2:w12.cell? ⟨gq,2,none⟩=some (.int .i64 (D:Int)):=ab 2 HQE.out;have x3:w12.cell? ⟨gq,3,none⟩=some (.bool TU):=ab 3 HQE.out;replace HZ:=Hd (HOE.out.heap HZ.out (by simp));have s0:w12.cell? ⟨gi,0,none⟩=some (.int .i64 0):=ab 0 HZ.out;have s1:w12.cell? ⟨gi,1,none⟩=some (.int .i64 0):=ab 1 HZ.out;have s2:w12.cell? ⟨gi,2,none⟩=some (.int .i64 0):=ab 2 HZ.out;have s3:w12.cell? ⟨gi,3,none⟩=some (.bool false):=ab 3 HZ.out;have gs0:=ac 0 HZ.out;have gs1:=ac 1 HZ.out;have gs2:=ac 2 HZ.out;have gs3:=ac 3 HZ.out;(go_wp2_with fail);have oz:Only [gi] w12 ((((w12.setCell ⟨gi,0,none⟩ (.int .i64 1)).setCell ⟨gi,1,none⟩ (.int .i64 (N:Int))).setCell ⟨gi,2,none⟩ (.int .i64 (D:Int))).setCell ⟨gi,3,none⟩ (.bool TU)):=oc;have hz:=aF HZ.out (.int .i64 1) (.int .i64 (N:Int)) (.int .i64 (D:Int)) (.bool TU);generalize (((w12.setCell ⟨gi,0,none⟩ (.int .i64 1)).setCell ⟨gi,1,none⟩ (.int .i64 (N:Int))).setCell ⟨gi,2,none⟩ (.int .i64 (D:Int))).setCell ⟨gi,3,none⟩ (.bool TU)=wz at oz hz⊢;(try simp only [Exit.inBlock,Exit.then]);refine bodyPost_ret (bT _ _ gi _ _ _ _ (.int .i64 0) (.int .i64 0) rfl rfl rfl hz) rfl ?_;have hm:fL d=1:=by
              unfold fL;rw [← HB25.out,← HB22.out,← HB55.out,← HRBB.out,← HCN.out,← HCGV.out];have e:=HRD.out;revert e;cases rb<;>cases cn<;>cases cg<;>simp
             exact ⟨by rw [HCG.out,hm];rfl,(HO1.out.trans HOE.out (by simp)).trans (T:=[gi]) oz (fun k hk=>.inr (by have:=HG.out.2.1;rw [List.mem_singleton.1 hk];omega))⟩
            ·have q0:w12.cell? ⟨gq,0,none⟩=some (.int .i64 1):=ab 0 HQE.out;have gq0:=ac 0 HQE.out;(go_upto_region 30 with (fail));have oz:Only [] wr (w12.setCell ⟨gq,0,none⟩ (.int .i64 3)):=HOE.out.setCell (.inr HGQ.out) _;have hz:=af (i:=0) (.int .i64 3) HQE.out;generalize w12.setCell ⟨gq,0,none⟩ (.int .i64 3)=w13 at oz hz⊢;replace HOE:=Hd oz;replace HQE:=Hd (show w13.heap[gq]?=some (.cells #[.int .i64 3,.int .i64 (N:Int),.int .i64 (D:Int),.bool TU] 64 (0,0)) from hz);clear oz hz q0 gq0;have y3:=ae HOE.out HY3.out (by simp);have K10:=KH.out w13 HOE.out;(go_wp2_with fail);refine K10.mono ?_;rintro en w14 ⟨rfl,o14⟩;replace HOE:=Hd (HOE.out.trans o14 (by simp));replace HQE:=Hd (o14.heap HQE.out (by simp));clear y3 K10 o14;cases b22
             ·have y3:=ae HOE.out HY3.out (by simp);have K11:=KH55.out w14 HOE.out;(go_wp2_with fail);refine K11.mono ?_;rintro en w15 ⟨rfl,o15⟩;replace HOE:=Hd (HOE.out.trans o15 (by simp));replace HQE:=Hd (o15.heap HQE.out (by simp));clear y3 K11 o15;cases b55
              ·cases RD
               ·have q0:w15.cell? ⟨gq,0,none⟩=some (.int .i64 3):=ab 0 HQE.out;have gq0:=ac 0 HQE.out;(go_upto_region 32 with (fail));have oz:Only [] wr (w15.setCell ⟨gq,0,none⟩ (.int .i64 2)):=HOE.out.setCell (.inr HGQ.out) _;have hz:=af (i:=0) (.int .i64 2) HQE.out;generalize w15.setCell ⟨gq,0,none⟩ (.int .i64 2)=w16 at oz hz⊢;replace HOE:=Hd oz;replace HQE:=Hd (show w16.heap[gq]?=some (.cells #[.int .i64 2,.int .i64 (N:Int),.int .i64 (D:Int),.bool TU] 64 (0,0)) from hz);clear oz hz q0 gq0;have x0:w16.cell? ⟨gq,0,none⟩=some (.int .i64 2):=ab 0 HQE.out;have x1:w16.cell? ⟨gq,1,none⟩=some (.int .i64 (N:Int)):=ab 1 HQE.out;have x2:w16.cell? ⟨gq,2,none⟩=some (.int .i64 (D:Int)):=ab 2 HQE.out;have x3:w16.cell? ⟨gq,3,none⟩=some (.bool TU):=ab 3 HQE.out;replace HZ:=Hd (HOE.out.heap HZ.out (by simp));have s0:w16.cell? ⟨gi,0,none⟩=some (.int .i64 0):=ab 0 HZ.out;have s1:w16.cell? ⟨gi,1,none⟩=some (.int .i64 0):=ab 1 HZ.out;have s2:w16.cell? ⟨gi,2,none⟩=some (.int .i64 0):=ab 2 HZ.out;have s3:w16.cell? ⟨gi,3,none⟩=some (.bool false):=ab 3 HZ.out;have gs0:=ac 0 HZ.out;have gs1:=ac 1 HZ.out;have gs2:=ac 2 HZ.out;have gs3:=ac 3 HZ.out;(go_wp2_with fail);have oz:Only [gi] w16 ((((w16.setCell ⟨gi,0,none⟩ (.int .i64 2)).setCell ⟨gi,1,none⟩ (.int .i64 (N:Int))).setCell ⟨gi,2,none⟩ (.int .i64 (D:Int))).setCell ⟨gi,3,none⟩ (.bool TU)):=oc;have hz:=aF HZ.out (.int .i64 2) (.int .i64 (N:Int)) (.int .i64 (D:Int)) (.bool TU);generalize (((w16.setCell ⟨gi,0,none⟩ (.int .i64 2)).setCell ⟨gi,1,none⟩ (.int .i64 (N:Int))).setCell ⟨gi,2,none⟩ (.int .i64 (D:Int))).setCell ⟨gi,3,none⟩ (.bool TU)=wz at oz hz⊢;(try simp only [Exit.inBlock,Exit.then]);refine bodyPost_ret (bT _ _ gi _ _ _ _ (.int .i64 0) (.int .i64 0) rfl rfl rfl hz) rfl ?_;have hm:fL d=2:=by
                 unfold fL;rw [← HB25.out,← HB22.out,← HB55.out,← HRBB.out,← HCN.out,← HCGV.out];have e:=HRD.out;revert e;cases rb<;>cases cn<;>cases cg<;>simp
                exact ⟨by rw [HCG.out,hm];rfl,(HO1.out.trans HOE.out (by simp)).trans (T:=[gi]) oz (fun k hk=>.inr (by have:=HG.out.2.1;rw [List.mem_singleton.1 hk];omega))⟩
               ·
                have x0:w15.cell? ⟨gq,0,none⟩=some (.int .i64 3):=ab 0 HQE.out;have x1:w15.cell? ⟨gq,1,none⟩=some (.int .i64 (N:Int)):=ab 1 HQE.out;have x2:w15.cell? ⟨gq,2,none⟩=some (.int .i64 (D:Int)):=ab 2 HQE.out;have x3:w15.cell? ⟨gq,3,none⟩=some (.bool TU):=ab 3 HQE.out;replace HZ:=Hd (HOE.out.heap HZ.out (by simp));have s0:w15.cell? ⟨gi,0,none⟩=some (.int .i64 0):=ab 0 HZ.out;have s1:w15.cell? ⟨gi,1,none⟩=some (.int .i64 0):=ab 1 HZ.out;have s2:w15.cell? ⟨gi,2,none⟩=some (.int .i64 0):=ab 2 HZ.out;have s3:w15.cell? ⟨gi,3,none⟩=some (.bool false):=ab 3 HZ.out;have gs0:=ac 0 HZ.out;have gs1:=ac 1 HZ.out;have gs2:=ac 2 HZ.out;have gs3:=ac 3 HZ.out;(go_wp2_with fail);have oz:Only [gi] w15 ((((w15.setCell ⟨gi,0,none⟩ (.int .i64 3)).setCell ⟨gi,1,none⟩ (.int .i64 (N:Int))).setCell ⟨gi,2,none⟩ (.int .i64 (D:Int))).setCell ⟨gi,3,none⟩ (.bool TU)):=oc;have hz:=aF HZ.out (.int .i64 3) (.int .i64 (N:Int)) (.int .i64 (D:Int)) (.bool TU);generalize (((w15.setCell ⟨gi,0,none⟩ (.int .i64 3)).setCell ⟨gi,1,none⟩ (.int .i64 (N:Int))).setCell ⟨gi,2,none⟩ (.int .i64 (D:Int))).setCell ⟨gi,3,none⟩ (.bool TU)=wz at oz hz⊢;(try simp only [Exit.inBlock,Exit.then]);refine bodyPost_ret (bT _ _ gi _ _ _ _ (.int .i64 0) (.int .i64 0) rfl rfl rfl hz) rfl ?_;have hm:fL d=3:=by
                 unfold fL;rw [← HB25.out,← HB22.out,← HB55.out,← HRBB.out,← HCN.out,← HCGV.out];have e:=HRD.out;revert e;cases rb<;>cases cn<;>cases cg<;>simp
                exact ⟨by rw [HCG.out,hm];rfl,(HO1.out.trans HOE.out (by simp)).trans (T:=[gi]) oz (fun k hk=>.inr (by have:=HG.out.2.1;rw [List.mem_singleton.1 hk];omega))⟩
              ·
               have x0:w15.cell? ⟨gq,0,none⟩=some (.int .i64 3):=ab 0 HQE.out;have x1:w15.cell? ⟨gq,1,none⟩=some (.int .i64 (N:Int)):=ab 1 HQE.out;have x2:w15.cell? ⟨gq,2,none⟩=some (.int .i64 (D:Int)):=ab 2 HQE.out;have x3:w15.cell? ⟨gq,3,none⟩=some (.bool TU):=ab 3 HQE.out;replace HZ:=Hd (HOE.out.heap HZ.out (by simp));have s0:w15.cell? ⟨gi,0,none⟩=some (.int .i64 0):=ab 0 HZ.out;have s1:w15.cell? ⟨gi,1,none⟩=some (.int .i64 0):=ab 1 HZ.out;have s2:w15.cell? ⟨gi,2,none⟩=some (.int .i64 0):=ab 2 HZ.out;have s3:w15.cell? ⟨gi,3,none⟩=some (.bool false):=ab 3 HZ.out;have gs0:=ac 0 HZ.out;have gs1:=ac 1 HZ.out;have gs2:=ac 2 HZ.out;have gs3:=ac 3 HZ.out;(go_wp2_with fail);have oz:Only [gi] w15 ((((w15.setCell ⟨gi,0,none⟩ (.int .i64 3)).setCell ⟨gi,1,none⟩ (.int .i64 (N:Int))).setCell ⟨gi,2,none⟩ (.int .i64 (D:Int))).setCell ⟨gi,3,none⟩ (.bool TU)):=oc;have hz:=aF HZ.out (.int .i64 3) (.int .i64 (N:Int)) (.int .i64 (D:Int)) (.bool TU);generalize (((w15.setCell ⟨gi,0,none⟩ (.int .i64 3)).setCell ⟨gi,1,none⟩ (.int .i64 (N:Int))).setCell ⟨gi,2,none⟩ (.int .i64 (D:Int))).setCell ⟨gi,3,none⟩ (.bool TU)=wz at oz hz⊢;(try simp only [Exit.inBlock,Exit.then]);refine bodyPost_ret (bT _ _ gi _ _ _ _ (.int .i64 0) (.int .i64 0) rfl rfl rfl hz) rfl ?_;have hm:fL d=3:=by
                unfold fL;rw [← HB25.out,← HB22.out,← HB55.out,← HRBB.out,← HCN.out,← HCGV.out];have e:=HRD.out;revert e;cases rb<;>cases cn<;>cases cg<;>simp
               exact ⟨by rw [HCG.out,hm];rfl,(HO1.out.trans HOE.out (by simp)).trans (T:=[gi]) oz (fun k hk=>.inr (by have:=HG.out.2.1;rw [List.mem_singleton.1 hk];omega))⟩
             ·
              have x0:w14.cell? ⟨gq,0,none⟩=some (.int .i64 3):=ab 0 HQE.out;have x1:w14.cell? ⟨gq,1,none⟩=some (.int .i64 (N:Int)):=ab 1 HQE.out;have x2:w14.cell? ⟨gq,2,none⟩=some (.int .i64 (D:Int)):=ab 2 HQE.out;have x3:w14.cell? ⟨gq,3,none⟩=some (.bool TU):=ab 3 HQE.out;replace HZ:=Hd (HOE.out.heap HZ.out (by simp));have s0:w14.cell? ⟨gi,0,none⟩=some (.int .i64 0):=ab 0 HZ.out;have s1:w14.cell? ⟨gi,1,none⟩=some (.int .i64 0):=ab 1 HZ.out;have s2:w14.cell? ⟨gi,2,none⟩=some (.int .i64 0):=ab 2 HZ.out;have s3:w14.cell? ⟨gi,3,none⟩=some (.bool false):=ab 3 HZ.out;have gs0:=ac 0 HZ.out;have gs1:=ac 1 HZ.out;have gs2:=ac 2 HZ.out;have gs3:=ac 3 HZ.out;(go_wp2_with fail);have oz:Only [gi] w14 ((((w14.setCell ⟨gi,0,none⟩ (.int .i64 3)).setCell ⟨gi,1,none⟩ (.int .i64 (N:Int))).setCell ⟨gi,2,none⟩ (.int .i64 (D:Int))).setCell ⟨gi,3,none⟩ (.bool TU)):=oc;have hz:=aF HZ.out (.int .i64 3) (.int .i64 (N:Int)) (.int .i64 (D:Int)) (.bool TU);generalize (((w14.setCell ⟨gi,0,none⟩ (.int .i64 3)).setCell ⟨gi,1,none⟩ (.int .i64 (N:Int))).setCell ⟨gi,2,none⟩ (.int .i64 (D:Int))).setCell ⟨gi,3,none⟩ (.bool TU)=wz at oz hz⊢;(try simp only [Exit.inBlock,Exit.then]);refine bodyPost_ret (bT _ _ gi _ _ _ _ (.int .i64 0) (.int .i64 0) rfl rfl rfl hz) rfl ?_;have hm:fL d=3:=by
               unfold fL;rw [← HB25.out,← HB22.out,← HB55.out,← HRBB.out,← HCN.out,← HCGV.out];have e:=HRD.out;revert e;cases rb<;>cases cn<;>cases cg<;>simp
              exact ⟨by rw [HCG.out,hm];rfl,(HO1.out.trans HOE.out (by simp)).trans (T:=[gi]) oz (fun k hk=>.inr (by have:=HG.out.2.1;rw [List.mem_singleton.1 hk];omega))⟩
        ·have HBD:=Hd (HAG.out.bad _ HFL.out.symm);have HCC:=Hd (show C=(pK,cf,pf) by rw [HC.out];exact rm HFL.out.symm)
         by_cases hbig:2048 < TY
         ·have K5:=cF HI.out.b.k 11 0;have hr11:=HBD.out.fail 11 0;obtain ⟨r9,hr9⟩:∃ r9,r9=RY.fail 11 0:=⟨_,rfl⟩
          rw [← hr9] at K5 hr11;replace HBD:=Hd hr11;clear hr9 hr11 hy;(go_wp2_with fail);refine K5.mono ?_;rintro en w5 ⟨rfl,hk5,ht5⟩;have HI5:=Hd (HI.out.state hk5 ht5);clear hk5 ht5 K5 y1;have hrow:=HI5.out.b.k.row;have kc1:w5.cell? ⟨g,1,none⟩=some (.int .i64 r9.code):=ab 1 hrow;have kc2:w5.cell? ⟨g,2,none⟩=some (.int .i64 r9.at_):=ab 2 hrow;have HZ:=Hd HI5.out.z;have HO1:=Hd HI5.out.o;rw [HBD.out.1] at kc1;rw [HBD.out.2.1] at kc2;have hc0:=HBD.out.2.2;simp only at kc1 kc2 hc0;clear hrow;(go_upto_region 25 with (fail));have oD:Only [] w5 (w5).drew:=(Only.refl [] w5).drew;refine wp_region_held_drew (S:=fun w'=>w'.cell? ⟨g,1,none⟩=some (.int .i64 cf)∧w'.cell? ⟨g,2,none⟩=some (.int .i64 pf)) (by kernel_rfl) ⟨ae oD kc1 (by simp),ae oD kc2 (by simp)⟩ (fun hH=>?_);replace HZ:=Hd (oD.heap HZ.out (by simp));replace HO1:=Hd (HO1.out.trans oD (by simp));clear oD kc1 kc2;generalize (w5).drew=wd at HZ HO1 hH⊢;have H12:=Hd hH;refine tk 0 hH ?_;refine tk 1 hH ?_;refine tk 2 hH ?_;refine tk 3 hH ?_;refine tk 4 hH ?_;refine tk 5 hH ?_;refine tk 6 hH ?_;refine tk 7 hH ?_;refine tk 8 hH ?_;have s0:wd.cell? ⟨gi,0,none⟩=some (.int .i64 0):=ab 0 HZ.out;have s1:wd.cell? ⟨gi,1,none⟩=some (.int .i64 0):=ab 1 HZ.out;have s2:wd.cell? ⟨gi,2,none⟩=some (.int .i64 0):=ab 2 HZ.out;have s3:wd.cell? ⟨gi,3,none⟩=some (.bool false):=ab 3 HZ.out;have gs0:=ac 0 HZ.out;have gs1:=ac 1 HZ.out;have gs2:=ac 2 HZ.out;have gs3:=ac 3 HZ.out;clear hH;refine rd 9 (fun K hK=>?_);go_simp;have oz:Only [gi] wd ((((wd.setCell ⟨gi,0,none⟩ (.int .i64 0)).setCell ⟨gi,1,none⟩ (.int .i64 0)).setCell ⟨gi,2,none⟩ (.int .i64 0)).setCell ⟨gi,3,none⟩ (.bool false)):=oc;have hz:=aF HZ.out (.int .i64 0) (.int .i64 0) (.int .i64 0) (.bool false);generalize (((wd.setCell ⟨gi,0,none⟩ (.int .i64 0)).setCell ⟨gi,1,none⟩ (.int .i64 0)).setCell ⟨gi,2,none⟩ (.int .i64 0)).setCell ⟨gi,3,none⟩ (.bool false)=wz at oz hz⊢;refine hK.out _ _ ⟨ae oz H12.out.1 (by simp;omega),ae oz H12.out.2 (by simp;omega)⟩ (fun hH=>?_);clear hK K s0 s1 s2 s3 gs0 gs1 gs2 gs3;refine tk 10 hH ?_;refine tk 11 hH ?_;refine wpAnyH_done (by kernel_rfl) ?_ _;clear hH;(go_wp2_with fail);(try simp only [Exit.inBlock,Exit.then]);refine bodyPost_ret (bT _ _ gi _ _ _ _ (.int .i64 cf) (.int .i64 pf) rfl rfl rfl hz) rfl ?_;exact ⟨by rw [HCC.out];rfl,HO1.out.trans (T:=[gi]) oz (fun k hk=>.inr (by have:=HG.out.2.1;rw [List.mem_singleton.1 hk];omega))⟩
         ·clear hy;have hrow:=HI.out.b.k.row;have kc1:wr.cell? ⟨g,1,none⟩=some (.int .i64 RY.code):=ab 1 hrow;have kc2:wr.cell? ⟨g,2,none⟩=some (.int .i64 RY.at_):=ab 2 hrow;have HZ:=Hd HI.out.z;have HO1:=Hd HI.out.o;rw [HBD.out.1] at kc1;rw [HBD.out.2.1] at kc2;have hc0:=HBD.out.2.2;simp only at kc1 kc2 hc0;clear hrow;(go_upto_region 25 with (fail));have oD:Only [] wr (wr).drew:=(Only.refl [] wr).drew;refine wp_region_held_drew (S:=fun w'=>w'.cell? ⟨g,1,none⟩=some (.int .i64 cf)∧w'.cell? ⟨g,2,none⟩=some (.int .i64 pf)) (by kernel_rfl) ⟨ae oD kc1 (by simp),ae oD kc2 (by simp)⟩ (fun hH=>?_);replace HZ:=Hd (oD.heap HZ.out (by simp));replace HO1:=Hd (HO1.out.trans oD (by simp));clear oD kc1 kc2;generalize (wr).drew=wd at HZ HO1 hH⊢;have H12:=Hd hH;refine tk 0 hH ?_;refine tk 1 hH ?_;refine tk 2 hH ?_;refine tk 3 hH ?_;refine tk 4 hH ?_;refine tk 5 hH ?_;refine tk 6 hH ?_;refine tk 7 hH ?_;refine tk 8 hH ?_;have s0:wd.cell? ⟨gi,0,none⟩=some (.int .i64 0):=ab 0 HZ.out;have s1:wd.cell? ⟨gi,1,none⟩=some (.int .i64 0):=ab 1 HZ.out;have s2:wd.cell? ⟨gi,2,none⟩=some (.int .i64 0):=ab 2 HZ.out;have s3:wd.cell? ⟨gi,3,none⟩=some (.bool false):=ab 3 HZ.out;have gs0:=ac 0 HZ.out;have gs1:=ac 1 HZ.out;have gs2:=ac 2 HZ.out;have gs3:=ac 3 HZ.out;clear hH;refine rd 9 (fun K hK=>?_);go_simp;have oz:Only [gi] wd ((((wd.setCell ⟨gi,0,none⟩ (.int .i64 0)).setCell ⟨gi,1,none⟩ (.int .i64 0)).setCell ⟨gi,2,none⟩ (.int .i64 0)).setCell ⟨gi,3,none⟩ (.bool false)):=oc;have hz:=aF HZ.out (.int .i64 0) (.int .i64 0) (.int .i64 0) (.bool false);generalize (((wd.setCell ⟨gi,0,none⟩ (.int .i64 0)).setCell ⟨gi,1,none⟩ (.int .i64 0)).setCell ⟨gi,2,none⟩ (.int .i64 0)).setCell ⟨gi,3,none⟩ (.bool false)=wz at oz hz⊢;refine hK.out _ _ ⟨ae oz H12.out.1 (by simp;omega),ae oz H12.out.2 (by simp;omega)⟩ (fun hH=>?_);clear hK K s0 s1 s2 s3 gs0 gs1 gs2 gs3;refine tk 10 hH ?_;refine tk 11 hH ?_;refine wpAnyH_done (by kernel_rfl) ?_ _;clear hH;(go_wp2_with fail);(try simp only [Exit.inBlock,Exit.then]);refine bodyPost_ret (bT _ _ gi _ _ _ _ (.int .i64 cf) (.int .i64 pf) rfl rfl rfl hz) rfl ?_;exact ⟨by rw [HCC.out];rfl,HO1.out.trans (T:=[gi]) oz (fun k hk=>.inr (by have:=HG.out.2.1;rw [List.mem_singleton.1 hk];omega))⟩
end Go.Proofs.YtheanmadognhbaaGreatDoor
