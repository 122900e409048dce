import Derived.Test.YtcebchffcmpfeaaGreatKdt
namespace Go.Proofs.YtcebchffcmpfeaaGreat
set_option linter.unusedVariables false
set_option linter.unusedSimpArgs false
set_option maxRecDepth 100000
set_option maxHeartbeats 16000000
open Go.RowKit Go.Maps
def CS.new:CS:=⟨[],fun _=>none,fun _=>0,0,none⟩
def infoV (i:InfoR):Value:=.agg #[.int .i64 i.mode,.int .i64 (i.steps:Int),.int .i64 (i.names:Int),.bool i.turns]
def infoZ:InfoR:=⟨0,0,0,false⟩
def chkD (d:Df):InfoR×Int×Int:=match (opS CS.new d).flt with | none=>(opI CS.new d,0,0) | some (c,p)=>(infoZ,c,p)
def FaultZ (w:World) (ev:Value) (f:Option (Int×Int)):Prop:=match f with
 | none=>ev=.nilIface
 | some (c,p)=>∃ g,ev=.iface 117 (.pointer (some ⟨g,0,none⟩))∧w.heap[g]?=some (.cells #[.int .i64 c,.int .i64 p] 119 (0,0))
theorem FaultZ.quiet {w w':World} {ev:Value} {f:Option (Int×Int)} (h:FaultZ w ev f) (ho:Only [] w w'):FaultZ w' ev f:=by
 cases f with
 | none=>exact h
 | some x=>
  obtain ⟨c,p⟩:=x;obtain ⟨g,h1,h2⟩:=h;exact ⟨g,h1,ho.heap h2 (by simp)⟩
def ChRes (w:World) (d:Df) (en:Ending) (w':World):Prop:=
 ∃ ev,en=.returned (.tuple #[infoV (chkD d).1,ev])∧FaultZ w' ev (opS CS.new d).flt∧Only [] w w'
theorem nt (tmps:Array Value) (w:World) (g:Nat) (v0 v1 v2 v3 ev:Value) (h2:tmps.getD 2 undef=.pointer (some ⟨g,0,none⟩)) (h3:tmps.getD 3 undef=ev) (h:w.heap[g]?=some (.cells #[v0,v1,v2,v3] 87 (0,0))) :
  (results Tryz.f34 tmps).run Tryz.prog w=.ok (.tuple #[.agg #[v0,v1,v2,v3],ev]) w:=by
 have c0:w.cell? ⟨g,0,none⟩=some v0:=ab 0 h;have c1:w.cell? ⟨g,1,none⟩=some v1:=ab 1 h;have c2:w.cell? ⟨g,2,none⟩=some v2:=ab 2 h;have c3:w.cell? ⟨g,3,none⟩=some v3:=ab 3 h;have hl:(loadVar 87 ⟨g,0,none⟩).run Tryz.prog w=.ok (.agg #[v0,v1,v2,v3]) w:=by
  clear h;simp [go_sem,c0,c1,c2,c3]
 have h2':tmps[2]?.getD undef=.pointer (some ⟨g,0,none⟩):=by simpa using h2
 have h3':tmps[3]?.getD undef=ev:=by simpa using h3
 simp [results,Tryz.results34,asAddr,h2',h3',hl]
def newW (w:World):World:=((w.alloc (.map #[] 0)).alloc (.map #[] 0)).alloc (.cells #[.map (some w.heap.size),.map (some (w.heap.size+1)),.int .i64 0,.int .i64 0,.int .i64 0,.int .i64 0,.int .i64 0,.int .i64 0,.int .i64 0,.int .i64 0,.int .i64 0,.int .i64 0,.pointer none] 123)
theorem newW_ck (w:World):CK (newW w) (w.heap.size+1+1) w.heap.size (w.heap.size+1) CS.new∧Only [] w (newW w):=by
 have s1:(w.alloc (.map #[] 0)).heap.size=w.heap.size+1:=Array.size_push _;have s2:((w.alloc (.map #[] 0)).alloc (.map #[] 0)).heap.size=w.heap.size+1+1:=by rw [← s1];exact Array.size_push _
 have n1:=NMap.made w 156;have n2:=NMap.made (w.alloc (.map #[] 0)) 3;rw [s1] at n2;have o2:Only [] (w.alloc (.map #[] 0)) (newW w):=((Only.refl [] _).alloc _).alloc _;have o3:Only [] ((w.alloc (.map #[] 0)).alloc (.map #[] 0)) (newW w):=(Only.refl [] _).alloc _;have h3:=ag ((w.alloc (.map #[] 0)).alloc (.map #[] 0)) (.cells #[.map (some w.heap.size),.map (some (w.heap.size+1)),.int .i64 0,.int .i64 0,.int .i64 0,.int .i64 0,.int .i64 0,.int .i64 0,.int .i64 0,.int .i64 0,.int .i64 0,.int .i64 0,.pointer none] 123);rw [s2] at h3;refine ⟨⟨⟨none,h3,rfl⟩,⟨0,n1.kept o2 (by simp)⟩,n2.kept o3 (by simp),by decide,by omega,fun nm h=>absurd h (by simp [CS.new])⟩,((Only.refl [] w).alloc _).trans o2 (by simp)⟩
theorem vP {w:World} {B:Nat→Prop} {d:Df} {cs:List Value} (hd:DV w B d cs) (hw:Whole d) (hp:pB d.body):Calls Tryz.prog 34 #[.agg cs.toArray] w (ChRes w d):=by
 obtain ⟨v1,v2,v3,v4,rfl,hv1,hv2,hv3,hv4⟩:=id hd;obtain ⟨a1,c1,rfl,-⟩:=hv1;obtain ⟨a2,c2,rfl,-⟩:=hv2;obtain ⟨a3,c3,rfl,-⟩:=hv3;obtain ⟨a4,c4,rfl,-⟩:=hv4;have HD:=Hd hd.lt;obtain ⟨sn,hsn⟩:∃ sn,sn=aj d.name:=⟨_,rfl⟩
 obtain ⟨L1,hL1⟩:∃ L,L=d.params.length:=⟨_,rfl⟩
 obtain ⟨L2,hL2⟩:∃ L,L=d.needs.length:=⟨_,rfl⟩
 obtain ⟨L3,hL3⟩:∃ L,L=d.body.length:=⟨_,rfl⟩
 obtain ⟨L4,hL4⟩:∃ L,L=d.give.length:=⟨_,rfl⟩
 rw [← hsn,← hL1,← hL2,← hL3,← hL4] at HD⊢;have HW:=Hd hw;have HP:=Hd hp;clear hd hw hp hsn hL1 hL2 hL3 hL4
 go_enter Tryz.func34,Tryz.ntmps34
 go_upto_region 1 with (fail)
 have o1:Only [] w ((w.alloc (.cells #[.string sn,.slice a1 L1 c1,.slice a2 L2 c2,.slice a3 L3 c3,.slice a4 L4 c4] 60)).alloc (.cells #[.int .i64 0,.int .i64 0,.int .i64 0,.bool false] 87)):=((Only.refl [] w).alloc _).alloc _;have hY:((w.alloc (.cells #[.string sn,.slice a1 L1 c1,.slice a2 L2 c2,.slice a3 L3 c3,.slice a4 L4 c4] 60)).alloc (.cells #[.int .i64 0,.int .i64 0,.int .i64 0,.bool false] 87)).heap[w.heap.size]?=some (.cells #[.string sn,.slice a1 L1 c1,.slice a2 L2 c2,.slice a3 L3 c3,.slice a4 L4 c4] 60 (0,0)):=ax _ (ag w _);have hZ:((w.alloc (.cells #[.string sn,.slice a1 L1 c1,.slice a2 L2 c2,.slice a3 L3 c3,.slice a4 L4 c4] 60)).alloc (.cells #[.int .i64 0,.int .i64 0,.int .i64 0,.bool false] 87)).heap[w.heap.size+1]?=some (.cells #[.int .i64 0,.int .i64 0,.int .i64 0,.bool false] 87 (0,0)):=by
  have:=ag (w.alloc (.cells #[.string sn,.slice a1 L1 c1,.slice a2 L2 c2,.slice a3 L3 c3,.slice a4 L4 c4] 60)) (.cells #[.int .i64 0,.int .i64 0,.int .i64 0,.bool false] 87);rw [show (w.alloc (.cells #[.string sn,.slice a1 L1 c1,.slice a2 L2 c2,.slice a3 L3 c3,.slice a4 L4 c4] 60)).heap.size=w.heap.size+1 from Array.size_push _] at this;exact this
 generalize ((w.alloc (.cells #[.string sn,.slice a1 L1 c1,.slice a2 L2 c2,.slice a3 L3 c3,.slice a4 L4 c4] 60)).alloc (.cells #[.int .i64 0,.int .i64 0,.int .i64 0,.bool false] 87))=w1 at o1 hY hZ⊢;have HY:=Hd hY;have HZ:=Hd hZ;have HO:=Hd o1;have hD1:=HD.out.kept o1 (by simp) (fun _ h=>h);have K1:=sH hD1 HW.out;have HD1:=Hd hD1;have y0:w1.cell? ⟨w.heap.size,0,none⟩=some (.string sn):=ab 0 hY;have y1:w1.cell? ⟨w.heap.size,1,none⟩=some (.slice a1 L1 c1):=ab 1 hY;have y2:w1.cell? ⟨w.heap.size,2,none⟩=some (.slice a2 L2 c2):=ab 2 hY;have y3:w1.cell? ⟨w.heap.size,3,none⟩=some (.slice a3 L3 c3):=ab 3 hY;have y4:w1.cell? ⟨w.heap.size,4,none⟩=some (.slice a4 L4 c4):=ab 4 hY;clear o1 hY hZ hD1;go_wp2_with fail
 refine K1.mono ?_;rintro en w2 ⟨rfl,o2⟩;replace HY:=Hd (o2.heap HY.out (by simp));replace HZ:=Hd (o2.heap HZ.out (by simp));replace HD1:=Hd (HD1.out.kept o2 (by simp) (fun _ h=>h));replace HO:=Hd (HO.out.trans o2 (by simp));clear K1 o2 y0 y1 y2 y3 y4;have hm:=@run_makeMap Tryz.prog 120;have hm2:=@run_makeMap Tryz.prog 90;go_upto_region 4 with (fail)
 rw [← newW.eq_1];obtain ⟨hck,o3⟩:=newW_ck w2;generalize newW w2=w3 at hck o3⊢;have hsz:w2.heap.size+1+1 < w3.heap.size:=hck.g_lt;obtain ⟨g,hg⟩:∃ g,g=w2.heap.size+1+1:=⟨_,rfl⟩
 obtain ⟨b1,hb1⟩:∃ g,g=w2.heap.size:=⟨_,rfl⟩
 obtain ⟨b2,hb2⟩:∃ g,g=w2.heap.size+1:=⟨_,rfl⟩
 rw [← hg,← hb2,← hb1] at hck;have hw2:w.heap.size+1 < w2.heap.size:=ak HZ.out;have hBn:∀ k∈[g,b1,b2],¬ (B k∧k < w.heap.size):=fun k hk=>by
  simp only [List.mem_cons,List.not_mem_nil,or_false] at hk;rcases hk with rfl | rfl | rfl<;>(intro e;have:=e.2;omega)
 have hgw:∀ k∈[g,b1,b2],k≠w.heap.size∧k≠w.heap.size+1:=fun k hk=>by
  simp only [List.mem_cons,List.not_mem_nil,or_false] at hk;rcases hk with rfl | rfl | rfl<;>omega
 have hz0:w.heap.size∉[g,b1,b2]:=fun h=>(hgw _ h).1 rfl;have hz1:w.heap.size+1∉[g,b1,b2]:=fun h=>(hgw _ h).2 rfl;have hwl:∀ k∈[g,b1,b2],w.heap.size≤k:=fun k hk=>by
  simp only [List.mem_cons,List.not_mem_nil,or_false] at hk;rcases hk with rfl | rfl | rfl<;>omega
 have HWL:=Hd hwl;rw [← hg];replace HY:=Hd (o3.heap HY.out (by simp));replace HZ:=Hd (o3.heap HZ.out (by simp));replace HD1:=Hd (HD1.out.kept o3 (by simp) (fun _ h=>h));replace HO:=Hd (HO.out.trans o3 (by simp));have hW:=HW.out;have hsizes:=hW.size;have K2:=kC (s:=CS.new) hck HD1.out hBn hW.params (by have:=hW.plen;omega) (vy _ hW.needs) (wB_ok _ hW.body) (vy _ hW.give) (by omega) (by omega) (by omega) (opG_few hW HP.out);have y0:w3.cell? ⟨w.heap.size,0,none⟩=some (.string sn):=ab 0 HY.out;have y1:w3.cell? ⟨w.heap.size,1,none⟩=some (.slice a1 L1 c1):=ab 1 HY.out;have y2:w3.cell? ⟨w.heap.size,2,none⟩=some (.slice a2 L2 c2):=ab 2 HY.out;have y3:w3.cell? ⟨w.heap.size,3,none⟩=some (.slice a3 L3 c3):=ab 3 HY.out;have y4:w3.cell? ⟨w.heap.size,4,none⟩=some (.slice a4 L4 c4):=ab 4 HY.out;clear hm hm2 hck o3 hsz hg hb1 hb2 hw2 hBn hgw hwl hW hsizes;go_wp2_with fail
 refine K2.mono ?_;rintro en w4 ⟨m,st,nm,tu,rfl,hk4,hres,o4⟩;replace HZ:=Hd (o4.heap HZ.out hz1);have ow:Only [] w w4:=by
  have:=HO.out.trans (T:=[g,b1,b2]) o4 (fun k hk=>.inr (HWL.out k hk));exact this
 replace HO:=Hd ow;obtain ⟨fv,hrow,hflt⟩:=hk4.row;have HK4:=Hd hk4;have hg4:=hk4.g_lt;have k12:w4.cell? ⟨g,12,none⟩=some (.pointer fv):=ab 12 hrow;have HR:=Hd hres;clear K2 hk4 hres o4 ow y0 y1 y2 y3 y4 hz0 hz1 HWL;have hzg:w.heap.size+1≠g:=by
  intro e;have h1:=HZ.out;rw [e,hrow] at h1;injection h1 with h1
  injection h1 with _ h2 _
  exact absurd h2 (by decide)
 clear hrow;have o5:Only [] w4 (w4.alloc (.cells #[.int .i64 m,.int .i64 st,.int .i64 nm,.bool tu] 87)):=(Only.refl [] w4).alloc _;have hX:=ag w4 (.cells #[.int .i64 m,.int .i64 st,.int .i64 nm,.bool tu] 87);cases hf:(opS CS.new d).flt with
 | some x=>
  obtain ⟨xc,xp⟩:=x;rw [hf] at hflt;obtain ⟨fb,rfl,hfb⟩:=hflt;have HF:=Hd hf;have HFB:=Hd hfb;clear hf hfb;have HX:=Hd hX;have HO5:=Hd o5;clear hX o5;go_upto_region 6 with (fail)
  have o5:=HO5.out;generalize (w4.alloc (.cells #[.int .i64 m,.int .i64 st,.int .i64 nm,.bool tu] 87))=w5 at o5⊢;replace HZ:=Hd (o5.heap HZ.out (by simp));replace HFB:=Hd (o5.heap HFB.out (by simp));have k5:=ac o5 k12 (by simp);replace HO:=Hd (HO.out.trans o5 (by simp));clear k12 o5 HO5 HX;have oD:Only [] w5 w5.drew:=(Only.refl [] w5).drew;refine wp_region_held_drew (S:=fun w'=>w'.cell? ⟨g,12,none⟩=some (.pointer (some ⟨fb,0,none⟩))) (by kernel_rfl) (ac oD k5 (by simp)) (fun hH=>?_);replace HZ:=Hd (oD.heap HZ.out (by simp));replace HFB:=Hd (oD.heap HFB.out (by simp));replace HO:=Hd (HO.out.trans oD (by simp));clear oD k5;generalize w5.drew=wd at HZ HFB HO hH⊢;have HK12:=Hd hH;refine tk 0 hH ?_;refine tk 1 hH ?_;refine tk 2 hH ?_;refine tk 3 hH ?_;have s0:wd.cell? ⟨w.heap.size+1,0,none⟩=some (.int .i64 0):=ab 0 HZ.out;have s1:wd.cell? ⟨w.heap.size+1,1,none⟩=some (.int .i64 0):=ab 1 HZ.out;have s2:wd.cell? ⟨w.heap.size+1,2,none⟩=some (.int .i64 0):=ab 2 HZ.out;have s3:wd.cell? ⟨w.heap.size+1,3,none⟩=some (.bool false):=ab 3 HZ.out;have gs0:=ae 0 HZ.out;have gs1:=ae 1 HZ.out;have gs2:=ae 2 HZ.out;have gs3:=ae 3 HZ.out;clear hH;refine rd 4 (fun K hK=>?_);go_simp;have oz:Only [w.heap.size+1] wd ((((wd.setCell ⟨w.heap.size+1,0,none⟩ (.int .i64 0)).setCell ⟨w.heap.size+1,1,none⟩ (.int .i64 0)).setCell ⟨w.heap.size+1,2,none⟩ (.int .i64 0)).setCell ⟨w.heap.size+1,3,none⟩ (.bool false)):=oc;have hz:=ci HZ.out (.int .i64 0) (.int .i64 0) (.int .i64 0) (.bool false);generalize (((wd.setCell ⟨w.heap.size+1,0,none⟩ (.int .i64 0)).setCell ⟨w.heap.size+1,1,none⟩ (.int .i64 0)).setCell ⟨w.heap.size+1,2,none⟩ (.int .i64 0)).setCell ⟨w.heap.size+1,3,none⟩ (.bool false)=wz at oz hz⊢;refine hK.out _ _ (ac oz HK12.out (by simpa using hzg.symm)) (fun hH=>?_);clear hK K s0 s1 s2 s3 gs0 gs1 gs2 gs3;refine tk 5 hH ?_;refine wpAnyH_done (by kernel_rfl) ?_ _;clear hH;go_wp2_with fail
  (try simp only [Exit.inBlock,Exit.then]);refine bodyPost_ret (nt _ _ (w.heap.size+1) _ _ _ _ _ rfl rfl hz) rfl ?_;have hchk:chkD d=(infoZ,xc,xp):=by unfold chkD;rw [HF.out]
  refine ⟨_,by rw [hchk];rfl,?_,HO.out.trans (T:=[w.heap.size+1]) oz (fun k hk=>.inr (by rw [List.mem_singleton.1 hk];omega))⟩;rw [HF.out];refine ⟨fb,rfl,oz.heap HFB.out (fun hk=>?_)⟩;have h1:=HZ.out;rw [← List.mem_singleton.1 hk,HFB.out] at h1;injection h1 with h1
  injection h1 with _ h2 _
  exact absurd h2 (by decide)
 | none=>
  rw [hf] at hflt;obtain rfl:fv=none:=hflt;have HF:=Hd hf;clear hf;have HX:=Hd hX;have HO5:=Hd o5;clear hX o5;go_upto_region 7 with (fail)
  have o5:=HO5.out;have hX:=HX.out;generalize (w4.alloc (.cells #[.int .i64 m,.int .i64 st,.int .i64 nm,.bool tu] 87))=w5 at o5 hX⊢;have hZ:=o5.heap HZ.out (by simp);replace HO:=Hd (HO.out.trans o5 (by simp));have s0:w5.cell? ⟨w.heap.size+1,0,none⟩=some (.int .i64 0):=ab 0 hZ;have s1:w5.cell? ⟨w.heap.size+1,1,none⟩=some (.int .i64 0):=ab 1 hZ;have s2:w5.cell? ⟨w.heap.size+1,2,none⟩=some (.int .i64 0):=ab 2 hZ;have s3:w5.cell? ⟨w.heap.size+1,3,none⟩=some (.bool false):=ab 3 hZ;have gs0:=ae 0 hZ;have gs1:=ae 1 hZ;have gs2:=ae 2 hZ;have gs3:=ae 3 hZ;have x0:w5.cell? ⟨w4.heap.size,0,none⟩=some (.int .i64 m):=ab 0 hX;have x1:w5.cell? ⟨w4.heap.size,1,none⟩=some (.int .i64 st):=ab 1 hX;have x2:w5.cell? ⟨w4.heap.size,2,none⟩=some (.int .i64 nm):=ab 2 hX;have x3:w5.cell? ⟨w4.heap.size,3,none⟩=some (.bool tu):=ab 3 hX;replace HZ:=Hd hZ;clear hX hZ HX o5 HO5 k12;go_wp2_with fail
  have oz:Only [w.heap.size+1] w5 ((((w5.setCell ⟨w.heap.size+1,0,none⟩ (.int .i64 m)).setCell ⟨w.heap.size+1,1,none⟩ (.int .i64 st)).setCell ⟨w.heap.size+1,2,none⟩ (.int .i64 nm)).setCell ⟨w.heap.size+1,3,none⟩ (.bool tu)):=oc;have hz:=ci HZ.out (.int .i64 m) (.int .i64 st) (.int .i64 nm) (.bool tu);generalize (((w5.setCell ⟨w.heap.size+1,0,none⟩ (.int .i64 m)).setCell ⟨w.heap.size+1,1,none⟩ (.int .i64 st)).setCell ⟨w.heap.size+1,2,none⟩ (.int .i64 nm)).setCell ⟨w.heap.size+1,3,none⟩ (.bool tu)=wz at oz hz⊢;refine bodyPost_ret (nt _ _ (w.heap.size+1) _ _ _ _ _ rfl rfl hz) rfl ?_;obtain ⟨rfl,rfl,rfl,rfl⟩:=HR.out HF.out;have hchk:chkD d=(opI CS.new d,0,0):=by unfold chkD;rw [HF.out]
  refine ⟨_,by rw [hchk];rfl,?_,HO.out.trans (T:=[w.heap.size+1]) oz (fun k hk=>.inr (by rw [List.mem_singleton.1 hk];omega))⟩;rw [HF.out];rfl
end Go.Proofs.YtcebchffcmpfeaaGreat
