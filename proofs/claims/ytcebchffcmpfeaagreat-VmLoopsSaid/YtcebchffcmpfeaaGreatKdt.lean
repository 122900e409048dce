import Derived.Test.YtcebchffcmpfeaaGreatK14t
namespace Go.Proofs.YtcebchffcmpfeaaGreat
set_option linter.unusedVariables false
set_option linter.unusedSimpArgs false
set_option maxRecDepth 100000
set_option maxHeartbeats 16000000
open Go.RowKit Go.Maps
def vz:CS→List Sec→CS
 | s,[]=>s
 | s,n :: ns=>vz (s.declare n 1 0) ns
def dw (s:CS) (l:List Sec):CS:=if 8 < l.length then s.fail 15 0 else vz s l
theorem vA {s:CS} {xs:List Sec} {j:Nat} {e:Sec} (hj:xs[j]?=some e):vz s (xs.drop j)=vz (s.declare e 1 0) (xs.drop (j+1)):=by
 obtain ⟨hlt,rfl⟩:=List.getElem?_eq_some_iff.1 hj;rw [List.drop_eq_getElem_cons hlt];rfl
def dF (s:CS):Int:=
 if wrap64 (wrap64 (s.ki 3+s.ki 4)+wrap64 (s.ki 2+s.ki 5))=0 then 1 else if wrap64 (s.ki 2+s.ki 5)=0∧s.cells=0 then 2 else 3
section
variable {w w':World} {g b1 b2:Nat} {s:CS} {B:Nat→Prop}
theorem pW (h:CK w g b1 b2 s) {l:List Sec} {v:Value} (hv:NmV w B v l) (hl:∀ nm∈l,nm.length≤65536) (hll:l.length≤1000000) (hB:∀ k∈[g,b1,b2],¬ B k) :
  Calls Tryz.prog 94 #[.pointer (some ⟨g,0,none⟩),v] w fun en w'=>en=.returned (.tuple #[])∧CK w' g b1 b2 (dw s l)∧Only [g,b1,b2] w w':=by
 obtain ⟨a,cap,rfl,-,hx⟩:=hv;have H:=Hd h;have HX:=Hd hx;have HLN:=Hd hl;have HB:=Hd hB;obtain ⟨n,hn⟩:∃ n,n=l.length:=⟨_,rfl⟩
 rw [← hn] at hll⊢
 by_cases h8:8 < n
 ·have hR:dw s l=s.fail 15 0:=by unfold dw;rw [if_pos (by omega)]
  have HR:=Hd hR;have h8':(8:Int) < (n:Int):=by omega
  clear h hx hl hB hn hR
  go_enter Tryz.func94,Tryz.ntmps94
  go_wp2_with fail
  refine (cS H.out 15 0).mono ?_;rintro en w2 ⟨rfl,hk,ho⟩;have HK:=Hd (And.intro hk ho);clear hk ho;go_wp2_with fail
  (try simp only [Exit.inBlock,Exit.then]);refine bodyPost_ret (results_none rfl _ _ _) rfl ?_;rw [HR.out];exact ⟨rfl,HK.out.1,HK.out.2.mono (by simp)⟩
 ·have hR:dw s l=vz s l:=by unfold dw;rw [if_neg (by omega)]
  have HR:=Hd hR;have h8':¬ (8:Int) < (n:Int):=by omega
  have HN:=Hd hn;clear h hx hl hB hn hR
  go_enter Tryz.func94,Tryz.ntmps94
  go_wp2_with fail
  go_loopw [13] (fun ix wr=>∃ (j:Nat) (sj:CS),j≤n∧ix=.int .i64 (j:Int)∧Hid (vz s l=vz sj (l.drop j))∧Hid (CK wr g b1 b2 sj)∧Hid (Only [g,b1,b2] w wr)) (fun ix _=>n - (intOf ix).toNat)
  case atStart=>exact ⟨0,s,Nat.zero_le _,rfl,Hd (by rw [List.drop_zero]),H,Hd (Only.refl _ _)⟩
  case round=>
   obtain ⟨j,sj,hjn,rfl,HT,HK,HO⟩:=hrel
   by_cases hlt:j < n
   ·have hlt':(j:Int) < (n:Int):=by omega
    have j0:(0:Int)≤(j:Int):=by omega
    obtain ⟨e,he⟩:∃ e,l[j]?=some e:=⟨_,List.getElem?_eq_getElem (by rw [← HN.out];exact hlt)⟩
    obtain ⟨gr,rfl,hgr,hes⟩:∃ gr,a=some ⟨gr,0,none⟩∧B gr∧∀ i s,l[i]?=some s→w.cell? ⟨gr,i,none⟩=some (.string (aj s)):=by
     rcases HX.out with hx | hx
     ·rw [hx] at he;simp at he
     ·exact hx
    have x0:wr.cell? ⟨gr,j,none⟩=some (.string (aj e)):=ac HO.out (hes j e he) (fun hk=>HB.out _ hk hgr);have hne:e.length≤65536:=HLN.out e (List.mem_of_getElem? he);have hstep:vz s l=vz (sj.declare e 1 0) (l.drop (j+1)):=by rw [HT.out,vA he]
    have K1:=et HK.out e hne 1 0 wf1;obtain ⟨sn,hsn⟩:∃ sn,sn=aj e:=⟨_,rfl⟩
    rw [← hsn] at x0 K1;have HST:=Hd hstep;clear hstep hsn hes he hne;(go_wp2_with fail);refine K1.mono ?_;rintro en w8 ⟨rfl,hk8,ho8⟩;have HK8:=Hd hk8;have HO8:=Hd (HO.out.trans ho8 (fun k hk=>.inl hk));clear hk8 ho8 K1 x0;(go_wp2_with fail);refine ⟨⟨j+1,_,by omega,rfl,HST,HK8,HO8⟩,?_⟩;simp [intOf];omega
   ·obtain rfl:j=n:=by omega
    have hT:=HT.out;have hR:vz s l=sj:=by
     rw [hT,HN.out,List.drop_length];rfl
    have HR2:=Hd hR;clear hT hR;(go_wp2_with fail);go_end0;rw [HR.out,HR2.out];exact ⟨rfl,HK.out,HO.out⟩
theorem gg (h:CK w g b1 b2 s):Calls Tryz.prog 99 #[.pointer (some ⟨g,0,none⟩)] w fun en w'=>en=.returned (.int .i64 (dF s))∧Only [] w w':=by
 obtain ⟨fv,h1,h2⟩:=h.row;have k2:w.cell? ⟨g,4,none⟩=some (.int .i64 (s.ki 2)):=ab 4 h1;have k3:w.cell? ⟨g,5,none⟩=some (.int .i64 (s.ki 3)):=ab 5 h1;have k4:w.cell? ⟨g,6,none⟩=some (.int .i64 (s.ki 4)):=ab 6 h1;have k5:w.cell? ⟨g,7,none⟩=some (.int .i64 (s.ki 5)):=ab 7 h1;have kc:w.cell? ⟨g,11,none⟩=some (.int .i64 s.cells):=ab 11 h1;obtain ⟨R,hR⟩:∃ R,R=dF s:=⟨_,rfl⟩
 rw [← hR];unfold dF at hR;generalize s.ki 2=x2 at k2 hR;generalize s.ki 3=x3 at k3 hR;generalize s.ki 4=x4 at k4 hR;generalize s.ki 5=x5 at k5 hR;generalize s.cells=xc at kc hR;have HR:=Hd hR;clear h h1 h2 hR
 go_enter Tryz.func99,Tryz.ntmps99
 go_wp2_with fail
 go_quiet (fail)
 go_wp2_with fail
 have oq:=bQ (n:=nq) (Only.refl [] w);have HQ:=Hd oq;have k2':(w.drewN nq).cell? ⟨g,4,none⟩=some (.int .i64 x2):=ac oq k2 (by simp);have k5':(w.drewN nq).cell? ⟨g,7,none⟩=some (.int .i64 x5):=ac oq k5 (by simp);have kc':(w.drewN nq).cell? ⟨g,11,none⟩=some (.int .i64 xc):=ac oq kc (by simp);clear k2 k3 k4 k5 kc oq;generalize w.drewN nq=w1 at HQ k2' k5' kc'⊢;clear nq;generalize wrap64 (x3+x4)=ad at HR⊢
 go_quiet (fail)
 have oq:=bQ (n:=nq) (Only.refl [] w1);have HQ2:=Hd (HQ.out.trans oq (by simp));have kc2:(w1.drewN nq).cell? ⟨g,11,none⟩=some (.int .i64 xc):=ac oq kc' (by simp);clear k2' k5' kc' oq;generalize w1.drewN nq=w2 at HQ2 kc2⊢;clear nq;generalize wrap64 (x2+x5)=ot at HR⊢
 by_cases hs:wrap64 (ad+ot)=0
 ·have hRR:R=1:=by rw [HR.out,if_pos hs]
  have HRR:=Hd hRR;clear hRR;go_wp2_with fail
  go_ret;rw [HRR.out];exact ⟨rfl,HQ2.out⟩
 ·have hs':(wrap64 (ad+ot) == 0)=false:=by simpa using hs
  by_cases ho:ot=0
  ·by_cases hc:xc=0
   ·have hRR:R=2:=by rw [HR.out,if_neg hs,if_pos ⟨ho,hc⟩]
    have HRR:=Hd hRR;have ho1:(ot == 0)=true:=by simp [ho]
    have hc1:(xc == 0)=true:=by simp [hc]
    clear hRR ho hc;(go_wp2_with fail);go_ret;rw [HRR.out];exact ⟨rfl,HQ2.out⟩
   ·have hRR:R=3:=by rw [HR.out,if_neg hs,if_neg (fun e=>hc e.2)]
    have HRR:=Hd hRR;have hc':(xc == 0)=false:=by simpa using hc
    have ho1:(ot == 0)=true:=by simp [ho]
    clear hRR ho;(go_wp2_with fail);go_ret;rw [HRR.out];exact ⟨rfl,HQ2.out⟩
  ·have hRR:R=3:=by rw [HR.out,if_neg hs,if_neg (fun e=>ho e.1)]
   have HRR:=Hd hRR;have ho':(ot == 0)=false:=by simpa using ho
   clear hRR;(go_wp2_with fail);go_ret;rw [HRR.out];exact ⟨rfl,HQ2.out⟩
end
def opT (s:CS) (d:Df):CS:=ay (dw s d.params) 2 d.needs
def opB (s:CS) (d:Df):CS:=aT (opT s d) d.body
def opG (s:CS) (d:Df):CS:=ay (opB s d) 1 d.give
def opS (s:CS) (d:Df):CS:=if (opG s d).flt.isSome=true then opG s d else if 2048 < stD d then (opG s d).fail 11 0 else opG s d
structure InfoR where
 mode:Int
 steps:Nat
 names:Nat
 turns:Bool
def opI (s:CS) (d:Df):InfoR:=⟨dF (opS s d),stD d,(opS s d).decl.length,(opS s d).ki 2 == 0 && wrap64 ((opB s d).cells - (opT s d).cells) == 0⟩
theorem ci {W:World} {g:Nat} {z0 z1 z2 z3:Value} {t:TypeId} (h:W.heap[g]?=some (.cells #[z0,z1,z2,z3] t (0,0))) (v0 v1 v2 v3:Value) :
  ((((W.setCell ⟨g,0,none⟩ v0).setCell ⟨g,1,none⟩ v1).setCell ⟨g,2,none⟩ v2).setCell ⟨g,3,none⟩ v3).heap[g]?=some (.cells #[v0,v1,v2,v3] t (0,0)):=
 af (i:=3) v3 (af (i:=2) v2 (af (i:=1) v1 (af (i:=0) v0 h)))
theorem b7 (tmps:Array Value) (w:World) (g:Nat) (v0 v1 v2 v3:Value) (h6:tmps.getD 4 undef=.pointer (some ⟨g,0,none⟩)) (h:w.heap[g]?=some (.cells #[v0,v1,v2,v3] 87 (0,0))) :
  (results Tryz.f63 tmps).run Tryz.prog w=.ok (.agg #[v0,v1,v2,v3]) w:=by
 have c0:w.cell? ⟨g,0,none⟩=some v0:=ab 0 h;have c1:w.cell? ⟨g,1,none⟩=some v1:=ab 1 h;have c2:w.cell? ⟨g,2,none⟩=some v2:=ab 2 h;have c3:w.cell? ⟨g,3,none⟩=some v3:=ab 3 h;have hl:(loadVar 87 ⟨g,0,none⟩).run Tryz.prog w=.ok (.agg #[v0,v1,v2,v3]) w:=by
  clear h;simp [go_sem,c0,c1,c2,c3]
 have h6':tmps[4]?.getD undef=.pointer (some ⟨g,0,none⟩):=by simpa using h6
 simp [results,Tryz.results63,asAddr,h6',hl]
theorem CK.past {w w':World} {g b1 b2:Nat} {s:CS} {S:List Nat} (h:CK w g b1 b2 s) (ho:Only S w w') (hS:∀ k∈S,k∉[g,b1,b2]) (hs:∀ k∈S,∀ o,w.heap[k]?=some o→∀ cs fr,o≠.cells cs 119 fr):CK w' g b1 b2 s:=by
 obtain ⟨fv,h1,h2⟩:=h.row;obtain ⟨c,h3⟩:=h.known;exact ⟨⟨fv,ho.heap h1 (fun hk=>hS g hk (by simp)),h2.kept ho hs⟩,⟨c,h3.kept ho (fun hk=>hS b1 hk (by simp))⟩,h.decl.kept ho (fun hk=>hS b2 hk (by simp)),h.len,h.ne,h.names⟩
section
variable {w w':World} {g b1 b2:Nat} {s:CS} {B:Nat→Prop}
theorem kC (h:CK w g b1 b2 s) {d:Df} {cs:List Value} (hd:DV w B d cs) (hB:∀ k∈[g,b1,b2],¬ B k) (hp:∀ nm∈d.params,nm.length≤65536) (hpl:d.params.length≤1000000)
  (hn:okL d.needs) (hb:si d.body) (hg:okL d.give) (h1:aq d.needs≤1000000) (h2:ah d.body≤1000000) (h3:aq d.give≤1000000) (hf:(opG s d).flt=none→kR d.body) :
  Calls Tryz.prog 63 #[.pointer (some ⟨g,0,none⟩),.agg cs.toArray] w fun en w'=>∃ (m st nm:Int) (tu:Bool),en=.returned (.agg #[.int .i64 m,.int .i64 st,.int .i64 nm,.bool tu])∧CK w' g b1 b2 (opS s d)∧
   ((opS s d).flt=none→m=(opI s d).mode∧st=(opI s d).steps∧nm=(opI s d).names∧tu=(opI s d).turns)∧Only [g,b1,b2] w w':=by
 obtain ⟨v1,v2,v3,v4,rfl,hv1,hv2,hv3,hv4⟩:=hd;obtain ⟨a1,c1,rfl,hx1⟩:=id hv1;obtain ⟨a2,c2,rfl,hx2⟩:=id hv2;obtain ⟨a3,c3,rfl,hx3⟩:=id hv3;obtain ⟨a4,c4,rfl,hx4⟩:=id hv4;have HDV:=Hd (show DV w B d _ from ⟨_,_,_,_,rfl,hv1,hv2,hv3,hv4⟩);obtain ⟨sn,hsn⟩:∃ sn,sn=aj d.name:=⟨_,rfl⟩
 obtain ⟨L1,hL1⟩:∃ L,L=d.params.length:=⟨_,rfl⟩
 obtain ⟨L2,hL2⟩:∃ L,L=d.needs.length:=⟨_,rfl⟩
 obtain ⟨L3,hL3⟩:∃ L,L=d.body.length:=⟨_,rfl⟩
 obtain ⟨L4,hL4⟩:∃ L,L=d.give.length:=⟨_,rfl⟩
 rw [← hsn,← hL1,← hL2,← hL3,← hL4] at HDV⊢;rw [← hL1] at hv1;rw [← hL2] at hv2;rw [← hL3] at hv3;rw [← hL4] at hv4;have HV1:=Hd hv1;have HB:=Hd hB;have hgl:=h.g_lt;have hb1l:=h.b1_lt;have hb2l:=h.b2_lt;have H:=Hd h;have HF:=Hd hf;clear hv1 hx1 hx2 hx3 hx4 hsn hL1 hL2 hL3 hL4 hB h hf
 go_enter Tryz.func63,Tryz.ntmps63
 go_wp2_with fail
 refine cp (fun w1 hY hZ o1=>?_);have HY:=Hd hY;have HZ:=Hd hZ;have hgw:w.heap.size∉[g,b1,b2]:=by simp only [List.mem_cons,List.not_mem_nil,or_false,not_or];omega
 have hgz:w.heap.size+1∉[g,b1,b2]:=by simp only [List.mem_cons,List.not_mem_nil,or_false,not_or];omega
 have HV2:=Hd (hv2.quiet o1);have HV3:=Hd (hv3.quiet o1);have HV4:=Hd (hv4.quiet o1);have HO:=Hd (o1.mono (T:=[g,b1,b2]) (by simp));have K1:=pW (s:=s) (H.out.quiet o1) (HV1.out.kept o1 (by simp) (fun _ h=>h)) hp hpl HB.out;clear hY hZ hv2 hv3 hv4 o1 hgl hb1l hb2l;refine K1.mono ?_;rintro en w2 ⟨rfl,hk,ho⟩;have hsub:Only [g,b1,b2] w1 w2:=ho.mono (by simp);replace HY:=Hd (hsub.heap HY.out hgw);replace HZ:=Hd (hsub.heap HZ.out hgz);replace HO:=Hd (HO.out.trans hsub (fun k hk=>.inl hk));replace HV2:=Hd (HV2.out.kept hsub HB.out (fun _ h=>h));replace HV3:=Hd (HV3.out.kept hsub HB.out (fun _ h=>h));replace HV4:=Hd (HV4.out.kept hsub HB.out (fun _ h=>h));clear ho hsub;have K2:=(jo 1000000 (by omega)).2 d.needs h1 w2 g b1 b2 _ _ B 2 hk hn HV2.out.esw (HB.out g (by simp));have y2:w2.cell? ⟨w.heap.size,2,none⟩=some (.slice a2 L2 c2):=ab 2 HY.out;clear hk K1;go_wp2_with fail
 refine K2.mono ?_;rintro en w3 ⟨rfl,hk,ho⟩;have hsub:Only [g,b1,b2] w2 w3:=ho.mono (by simp);replace HY:=Hd (hsub.heap HY.out hgw);replace HZ:=Hd (hsub.heap HZ.out hgz);replace HO:=Hd (HO.out.trans hsub (fun k hk=>.inl hk));replace HV2:=Hd (HV2.out.kept hsub HB.out (fun _ h=>h));replace HV3:=Hd (HV3.out.kept hsub HB.out (fun _ h=>h));replace HV4:=Hd (HV4.out.kept hsub HB.out (fun _ h=>h));clear ho hsub;have K3:=(so 1000000 (by omega)).2 d.body h2 w3 g b1 b2 _ _ B hk hb HV3.out HB.out;have y3:w3.cell? ⟨w.heap.size,3,none⟩=some (.slice a3 L3 c3):=ab 3 HY.out;obtain ⟨fv3,hr3,-⟩:=hk.row;have kc3:w3.cell? ⟨g,11,none⟩=some (.int .i64 (opT s d).cells):=ab 11 hr3;clear hk K2 y2 hr3;obtain ⟨C3,hC3⟩:∃ C,C=(opT s d).cells:=⟨_,rfl⟩
 rw [← hC3] at kc3;have HC3:=Hd hC3;clear hC3;go_wp2_with fail
 refine K3.mono ?_;rintro en w4 ⟨rfl,hk,ho⟩;have hsub:Only [g,b1,b2] w3 w4:=ho.mono (by simp);replace HY:=Hd (hsub.heap HY.out hgw);replace HZ:=Hd (hsub.heap HZ.out hgz);replace HO:=Hd (HO.out.trans hsub (fun k hk=>.inl hk));replace HV2:=Hd (HV2.out.kept hsub HB.out (fun _ h=>h));replace HV3:=Hd (HV3.out.kept hsub HB.out (fun _ h=>h));replace HV4:=Hd (HV4.out.kept hsub HB.out (fun _ h=>h));clear ho hsub;have K4:=(jo 1000000 (by omega)).2 d.give h3 w4 g b1 b2 _ _ B 1 hk hg HV4.out.esw (HB.out g (by simp));have y4:w4.cell? ⟨w.heap.size,4,none⟩=some (.slice a4 L4 c4):=ab 4 HY.out;obtain ⟨fv4,hr4,-⟩:=hk.row;have kc4:w4.cell? ⟨g,11,none⟩=some (.int .i64 (opB s d).cells):=ab 11 hr4;clear hk K3 y3 hr4 kc3;obtain ⟨C4,hC4⟩:∃ C,C=(opB s d).cells:=⟨_,rfl⟩
 rw [← hC4] at kc4;have HC4:=Hd hC4;clear hC4;go_wp2_with fail
 refine K4.mono ?_;rintro en w5 ⟨rfl,hk,ho⟩;have hsub:Only [g,b1,b2] w4 w5:=ho.mono (by simp);replace HY:=Hd (hsub.heap HY.out hgw);replace HZ:=Hd (hsub.heap HZ.out hgz);replace HO:=Hd (HO.out.trans hsub (fun k hk=>.inl hk));replace HV2:=Hd (HV2.out.kept hsub HB.out (fun _ h=>h));replace HV3:=Hd (HV3.out.kept hsub HB.out (fun _ h=>h));replace HV4:=Hd (HV4.out.kept hsub HB.out (fun _ h=>h));clear ho hsub;have hk5:CK w5 g b1 b2 (opG s d):=hk;obtain ⟨fv5,hr5,hf5⟩:=hk5.row;have kf5:w5.cell? ⟨g,12,none⟩=some (.pointer fv5):=ab 12 hr5;have HK5:=Hd hk5;clear hk hk5 K4 y4 kc4 hr5;cases hfl:(opG s d).flt with
 | some x=>
  rw [hfl] at hf5;obtain ⟨xc,xp⟩:=x;obtain ⟨fb,rfl,-⟩:=hf5;have hS:opS s d=opG s d:=by unfold opS;rw [hfl];rfl
  have HS:=Hd (And.intro hS hfl);clear hS hfl;have s0:w5.cell? ⟨w.heap.size+1,0,none⟩=some (.int .i64 0):=ab 0 HZ.out;have s1:w5.cell? ⟨w.heap.size+1,1,none⟩=some (.int .i64 0):=ab 1 HZ.out;have s2:w5.cell? ⟨w.heap.size+1,2,none⟩=some (.int .i64 0):=ab 2 HZ.out;have s3:w5.cell? ⟨w.heap.size+1,3,none⟩=some (.bool false):=ab 3 HZ.out;have gs0:=ae 0 HZ.out;have gs1:=ae 1 HZ.out;have gs2:=ae 2 HZ.out;have gs3:=ae 3 HZ.out;go_wp2_with fail
  have oz:Only [w.heap.size+1] w5 ((((w5.setCell ⟨w.heap.size+1,0,none⟩ (.int .i64 0)).setCell ⟨w.heap.size+1,1,none⟩ (.int .i64 0)).setCell ⟨w.heap.size+1,2,none⟩ (.int .i64 0)).setCell ⟨w.heap.size+1,3,none⟩ (.bool false)):=oc;have hz:=ci HZ.out (.int .i64 0) (.int .i64 0) (.int .i64 0) (.bool false);generalize (((w5.setCell ⟨w.heap.size+1,0,none⟩ (.int .i64 0)).setCell ⟨w.heap.size+1,1,none⟩ (.int .i64 0)).setCell ⟨w.heap.size+1,2,none⟩ (.int .i64 0)).setCell ⟨w.heap.size+1,3,none⟩ (.bool false)=wz at oz hz⊢;(try simp only [Exit.inBlock,Exit.then]);refine bodyPost_ret (b7 _ _ (w.heap.size+1) _ _ _ _ rfl hz) rfl ?_;refine ⟨0,0,0,false,rfl,?_,fun e=>?_,?_⟩
  ·rw [HS.out.1];refine HK5.out.past oz (fun k hk=>by rw [List.mem_singleton.1 hk];exact hgz) (fun k hk o ho cs fr e=>?_);rw [List.mem_singleton.1 hk,HZ.out] at ho;rw [← Option.some.inj ho] at e;injection e with _ e2 _
   exact absurd e2 (by decide)
  ·rw [HS.out.1,HS.out.2] at e;cases e
  ·exact HO.out.trans (T:=[w.heap.size+1]) oz (fun k hk=>.inr (by rw [List.mem_singleton.1 hk];omega))
 | none=>
  rw [hfl] at hf5;obtain rfl:fv5=none:=hf5;have hfew:=HF.out hfl;have K5:=iQ (w:=w5) (d:=d) (B:=B) (HDV.out.kept HO.out HB.out (fun _ h=>h)) h1 h2 h3 hfew;have y0:w5.cell? ⟨w.heap.size,0,none⟩=some (.string sn):=ab 0 HY.out;have y1:w5.cell? ⟨w.heap.size,1,none⟩=some (.slice a1 L1 c1):=ab 1 HY.out;have y2:w5.cell? ⟨w.heap.size,2,none⟩=some (.slice a2 L2 c2):=ab 2 HY.out;have y3:w5.cell? ⟨w.heap.size,3,none⟩=some (.slice a3 L3 c3):=ab 3 HY.out;have y4:w5.cell? ⟨w.heap.size,4,none⟩=some (.slice a4 L4 c4):=ab 4 HY.out;obtain ⟨T,hT⟩:∃ T,T=stD d:=⟨_,rfl⟩
  rw [← hT] at K5;have HT:=Hd hT;have HFL:=Hd hfl;clear hT hfl hfew;go_wp2_with fail
  refine K5.mono ?_;rintro en w6 ⟨rfl,ho⟩;have ho6:=ho;replace ho:=ho.mono (T:=[g,b1,b2]) (by simp);have hsub:Only [g,b1,b2] w5 w6:=ho.mono (by simp);replace HY:=Hd (hsub.heap HY.out hgw);replace HZ:=Hd (hsub.heap HZ.out hgz);replace HO:=Hd (HO.out.trans hsub (fun k hk=>.inl hk));replace HV2:=Hd (HV2.out.kept hsub HB.out (fun _ h=>h));replace HV3:=Hd (HV3.out.kept hsub HB.out (fun _ h=>h));replace HV4:=Hd (HV4.out.kept hsub HB.out (fun _ h=>h));clear ho hsub;have HK6:=Hd (HK5.out.quiet ho6);clear K5 y0 y1 y2 y3 y4 kf5 ho6
  by_cases h20:2048 < T
  ·have h20':(2048:Int) < (T:Int):=by omega
   have hS:opS s d=(opG s d).fail 11 0:=by unfold opS;rw [HFL.out,← HT.out];simp [h20]
   have HS:=Hd hS;clear hS h20;(go_wp2_with fail);refine (cS HK6.out 11 0).mono ?_;rintro en w7 ⟨rfl,hk,ho⟩;have hsub:Only [g,b1,b2] w6 w7:=ho.mono (by simp);replace HY:=Hd (hsub.heap HY.out hgw);replace HZ:=Hd (hsub.heap HZ.out hgz);replace HO:=Hd (HO.out.trans hsub (fun k hk=>.inl hk));replace HV2:=Hd (HV2.out.kept hsub HB.out (fun _ h=>h));replace HV3:=Hd (HV3.out.kept hsub HB.out (fun _ h=>h));replace HV4:=Hd (HV4.out.kept hsub HB.out (fun _ h=>h));clear ho hsub;have HK7:=Hd (show CK w7 g b1 b2 (opS s d) by rw [HS.out];exact hk);clear hk;(go_wp2_with fail);generalize hwi:wrap64 (C4 - C3)=wi;have HWI:=Hd hwi;clear hwi;obtain ⟨s7,hs7⟩:∃ s7,s7=opS s d:=⟨_,rfl⟩
   rw [← hs7] at HK7;have HS7:=Hd hs7;clear hs7;obtain ⟨N7,hN7⟩:∃ N7,N7=s7.decl.length:=⟨_,rfl⟩
   have HN7:=Hd hN7;obtain ⟨x2,hx2⟩:∃ x2,x2=s7.ki 2:=⟨_,rfl⟩
   have HX2:=Hd hx2;have hst:∀ W,CK W g b1 b2 s7→(W.cell? ⟨g,1,none⟩=some (.map (some b2))∧W.cell? ⟨g,4,none⟩=some (.int .i64 x2)∧∀ ty,(Builtin.len_ #[90] ty #[.map (some b2)]).run Tryz.prog W=.ok (.int .i64 (N7:Int)) W):=fun W hk=>by
    obtain ⟨fv,h1,h2⟩:=hk.row;refine ⟨ab 1 h1,by rw [hx2];exact ab 4 h1,fun ty=>by rw [hN7];exact hk.decl.len Tryz.underlying90 ty⟩
   have HST:=Hd hst;clear hst hN7 hx2;have oD:Only [] w7 w7.drew:=(Only.refl [] w7).drew
   by_cases hx0:x2=0
   ·have hx0':(x2 == 0)=true:=by simp [hx0]
    have HX0:=Hd hx0;clear hx0;obtain ⟨tb,htb⟩:∃ tb,(wi == 0)=tb:=⟨_,rfl⟩
    have HTB:=Hd htb;refine wp_region_held_drew (S:=fun W=>W.cell? ⟨g,1,none⟩=some (.map (some b2))∧W.cell? ⟨g,4,none⟩=some (.int .i64 x2)∧∀ ty,(Builtin.len_ #[90] ty #[.map (some b2)]).run Tryz.prog W=.ok (.int .i64 (N7:Int)) W) (by kernel_rfl) (HST.out _ (HK7.out.quiet oD)) (fun hH=>?_);have HOD:=Hd oD;clear oD;generalize w7.drew=wd at HOD hH⊢;refine tk 0 hH ?_;refine tk 2 hH ?_;refine tk 3 hH ?_;refine tk 4 hH ?_;refine tk 5 hH ?_;refine tk 6 hH ?_;refine tk 8 hH ?_;refine tk 9 hH ?_;refine tk 10 hH ?_;refine tk 11 hH ?_;refine tk 12 hH ?_;refine tk 13 hH ?_;refine rd 1 (fun K hK=>?_);go_simp;refine (gg (HK7.out.quiet HOD.out)).mono ?_;rintro en w8 ⟨rfl,ho8⟩;have HO8:=Hd (HOD.out.trans ho8 (by simp));refine hK.out _ _ (HST.out _ (HK7.out.quiet HO8.out)) (fun hH=>?_);clear hK K ho8;refine tk 7 hH ?_;refine tk 14 hH ?_;refine tk 15 hH ?_;refine tk 16 hH ?_;refine tk 17 hH ?_;refine tk 18 hH ?_;have HZ8:=Hd (HO8.out.heap HZ.out (by simp));have s0:w8.cell? ⟨w.heap.size+1,0,none⟩=some (.int .i64 0):=ab 0 HZ8.out;have s1:w8.cell? ⟨w.heap.size+1,1,none⟩=some (.int .i64 0):=ab 1 HZ8.out;have s2:w8.cell? ⟨w.heap.size+1,2,none⟩=some (.int .i64 0):=ab 2 HZ8.out;have s3:w8.cell? ⟨w.heap.size+1,3,none⟩=some (.bool false):=ab 3 HZ8.out;have gs0:=ae 0 HZ8.out;have gs1:=ae 1 HZ8.out;have gs2:=ae 2 HZ8.out;have gs3:=ae 3 HZ8.out;clear hH;refine rd 19 (fun K hK=>?_);go_simp;have oz:Only [w.heap.size+1] w8 ((((w8.setCell ⟨w.heap.size+1,0,none⟩ (.int .i64 (dF s7))).setCell ⟨w.heap.size+1,1,none⟩ (.int .i64 (T:Int))).setCell ⟨w.heap.size+1,2,none⟩ (.int .i64 (N7:Int))).setCell ⟨w.heap.size+1,3,none⟩ (.bool tb)):=oc;have hz:=ci HZ8.out (.int .i64 (dF s7)) (.int .i64 (T:Int)) (.int .i64 (N7:Int)) (.bool tb);generalize (((w8.setCell ⟨w.heap.size+1,0,none⟩ (.int .i64 (dF s7))).setCell ⟨w.heap.size+1,1,none⟩ (.int .i64 (T:Int))).setCell ⟨w.heap.size+1,2,none⟩ (.int .i64 (N7:Int))).setCell ⟨w.heap.size+1,3,none⟩ (.bool tb)=wz at oz hz⊢;have hkz:CK wz g b1 b2 s7:=by
     refine (HK7.out.quiet HO8.out).past oz (fun k hk=>by rw [List.mem_singleton.1 hk];exact hgz) (fun k hk o ho cs fr e=>?_);rw [List.mem_singleton.1 hk,HZ8.out] at ho;rw [← Option.some.inj ho] at e;injection e with _ e2 _
     exact absurd e2 (by decide)
    refine hK.out _ _ (HST.out _ hkz) (fun hH=>?_);have HKZ:=Hd hkz;have HZZ:=Hd hz;have HOZ:=Hd oz;clear hK K hz hkz oz s0 s1 s2 s3 gs0 gs1 gs2 gs3;refine wpAnyH_done (by kernel_rfl) ?_ _;clear hH;(go_wp2_with fail);(try simp only [Exit.inBlock,Exit.then]);refine bodyPost_ret (b7 _ _ (w.heap.size+1) _ _ _ _ rfl HZZ.out) rfl ?_;refine ⟨dF s7,T,N7,tb,rfl,by rw [← HS7.out];exact HKZ.out,fun _=>⟨by rw [HS7.out];rfl,by rw [HT.out];rfl,by rw [HN7.out,HS7.out];rfl,?_⟩,(HO.out.trans HO8.out (by simp)).trans (T:=[w.heap.size+1]) HOZ.out (fun k hk=>.inr (by rw [List.mem_singleton.1 hk];omega))⟩;unfold opI;dsimp only;rw [← HS7.out,← HX2.out,HX0.out,← HC4.out,← HC3.out,HWI.out,HTB.out];simp
   ·have hx0':(x2 == 0)=false:=by simpa using hx0
    have HX0:=Hd hx0';clear hx0;refine wp_region_held_drew (S:=fun W=>W.cell? ⟨g,1,none⟩=some (.map (some b2))∧W.cell? ⟨g,4,none⟩=some (.int .i64 x2)∧∀ ty,(Builtin.len_ #[90] ty #[.map (some b2)]).run Tryz.prog W=.ok (.int .i64 (N7:Int)) W) (by kernel_rfl) (HST.out _ (HK7.out.quiet oD)) (fun hH=>?_);have HOD:=Hd oD;clear oD;generalize w7.drew=wd at HOD hH⊢;refine tk 0 hH ?_;refine tk 2 hH ?_;refine tk 3 hH ?_;refine tk 4 hH ?_;refine tk 5 hH ?_;refine tk 6 hH ?_;refine tk 8 hH ?_;refine tk 9 hH ?_;refine tk 10 hH ?_;refine tk 11 hH ?_;refine tk 12 hH ?_;refine tk 13 hH ?_;refine rd 1 (fun K hK=>?_);go_simp;refine (gg (HK7.out.quiet HOD.out)).mono ?_;rintro en w8 ⟨rfl,ho8⟩;have HO8:=Hd (HOD.out.trans ho8 (by simp));refine hK.out _ _ (HST.out _ (HK7.out.quiet HO8.out)) (fun hH=>?_);clear hK K ho8;refine tk 7 hH ?_;refine tk 14 hH ?_;refine sk 15 hH ?_;refine sk 16 hH ?_;refine tk 17 hH ?_;refine tk 18 hH ?_;have HZ8:=Hd (HO8.out.heap HZ.out (by simp));have s0:w8.cell? ⟨w.heap.size+1,0,none⟩=some (.int .i64 0):=ab 0 HZ8.out;have s1:w8.cell? ⟨w.heap.size+1,1,none⟩=some (.int .i64 0):=ab 1 HZ8.out;have s2:w8.cell? ⟨w.heap.size+1,2,none⟩=some (.int .i64 0):=ab 2 HZ8.out;have s3:w8.cell? ⟨w.heap.size+1,3,none⟩=some (.bool false):=ab 3 HZ8.out;have gs0:=ae 0 HZ8.out;have gs1:=ae 1 HZ8.out;have gs2:=ae 2 HZ8.out;have gs3:=ae 3 HZ8.out;clear hH;refine rd 19 (fun K hK=>?_);go_simp;have oz:Only [w.heap.size+1] w8 ((((w8.setCell ⟨w.heap.size+1,0,none⟩ (.int .i64 (dF s7))).setCell ⟨w.heap.size+1,1,none⟩ (.int .i64 (T:Int))).setCell ⟨w.heap.size+1,2,none⟩ (.int .i64 (N7:Int))).setCell ⟨w.heap.size+1,3,none⟩ (.bool false)):=oc;have hz:=ci HZ8.out (.int .i64 (dF s7)) (.int .i64 (T:Int)) (.int .i64 (N7:Int)) (.bool false);generalize (((w8.setCell ⟨w.heap.size+1,0,none⟩ (.int .i64 (dF s7))).setCell ⟨w.heap.size+1,1,none⟩ (.int .i64 (T:Int))).setCell ⟨w.heap.size+1,2,none⟩ (.int .i64 (N7:Int))).setCell ⟨w.heap.size+1,3,none⟩ (.bool false)=wz at oz hz⊢;have hkz:CK wz g b1 b2 s7:=by
     refine (HK7.out.quiet HO8.out).past oz (fun k hk=>by rw [List.mem_singleton.1 hk];exact hgz) (fun k hk o ho cs fr e=>?_);rw [List.mem_singleton.1 hk,HZ8.out] at ho;rw [← Option.some.inj ho] at e;injection e with _ e2 _
     exact absurd e2 (by decide)
    refine hK.out _ _ (HST.out _ hkz) (fun hH=>?_);have HKZ:=Hd hkz;have HZZ:=Hd hz;have HOZ:=Hd oz;clear hK K hz hkz oz s0 s1 s2 s3 gs0 gs1 gs2 gs3;refine wpAnyH_done (by kernel_rfl) ?_ _;clear hH;(go_wp2_with fail);(try simp only [Exit.inBlock,Exit.then]);refine bodyPost_ret (b7 _ _ (w.heap.size+1) _ _ _ _ rfl HZZ.out) rfl ?_;refine ⟨dF s7,T,N7,false,rfl,by rw [← HS7.out];exact HKZ.out,fun _=>⟨by rw [HS7.out];rfl,by rw [HT.out];rfl,by rw [HN7.out,HS7.out];rfl,?_⟩,(HO.out.trans HO8.out (by simp)).trans (T:=[w.heap.size+1]) HOZ.out (fun k hk=>.inr (by rw [List.mem_singleton.1 hk];omega))⟩;unfold opI;dsimp only;rw [← HS7.out,← HX2.out,HX0.out];simp
  ·have h20':¬ (2048:Int) < (T:Int):=by omega
   have hS:opS s d=opG s d:=by unfold opS;rw [HFL.out,← HT.out];simp [h20]
   have HS:=Hd hS;have HK7:=Hd (show CK w6 g b1 b2 (opS s d) by rw [hS];exact HK6.out);clear hS h20;obtain ⟨w7,hw7⟩:∃ w7,w7=w6:=⟨_,rfl⟩
   rw [← hw7] at HY HZ HO HK7;(go_wp2_with fail);rw [← hw7];clear hw7;generalize hwi:wrap64 (C4 - C3)=wi;have HWI:=Hd hwi;clear hwi;obtain ⟨s7,hs7⟩:∃ s7,s7=opS s d:=⟨_,rfl⟩
   rw [← hs7] at HK7;have HS7:=Hd hs7;clear hs7;obtain ⟨N7,hN7⟩:∃ N7,N7=s7.decl.length:=⟨_,rfl⟩
   have HN7:=Hd hN7;obtain ⟨x2,hx2⟩:∃ x2,x2=s7.ki 2:=⟨_,rfl⟩
   have HX2:=Hd hx2;have hst:∀ W,CK W g b1 b2 s7→(W.cell? ⟨g,1,none⟩=some (.map (some b2))∧W.cell? ⟨g,4,none⟩=some (.int .i64 x2)∧∀ ty,(Builtin.len_ #[90] ty #[.map (some b2)]).run Tryz.prog W=.ok (.int .i64 (N7:Int)) W):=fun W hk=>by
    obtain ⟨fv,h1,h2⟩:=hk.row;refine ⟨ab 1 h1,by rw [hx2];exact ab 4 h1,fun ty=>by rw [hN7];exact hk.decl.len Tryz.underlying90 ty⟩
   have HST:=Hd hst;clear hst hN7 hx2;have oD:Only [] w7 w7.drew:=(Only.refl [] w7).drew
   by_cases hx0:x2=0
   ·have hx0':(x2 == 0)=true:=by simp [hx0]
    have HX0:=Hd hx0;clear hx0;obtain ⟨tb,htb⟩:∃ tb,(wi == 0)=tb:=⟨_,rfl⟩
    have HTB:=Hd htb;refine wp_region_held_drew (S:=fun W=>W.cell? ⟨g,1,none⟩=some (.map (some b2))∧W.cell? ⟨g,4,none⟩=some (.int .i64 x2)∧∀ ty,(Builtin.len_ #[90] ty #[.map (some b2)]).run Tryz.prog W=.ok (.int .i64 (N7:Int)) W) (by kernel_rfl) (HST.out _ (HK7.out.quiet oD)) (fun hH=>?_);have HOD:=Hd oD;clear oD;generalize w7.drew=wd at HOD hH⊢;refine tk 0 hH ?_;refine tk 2 hH ?_;refine tk 3 hH ?_;refine tk 4 hH ?_;refine tk 5 hH ?_;refine tk 6 hH ?_;refine tk 8 hH ?_;refine tk 9 hH ?_;refine tk 10 hH ?_;refine tk 11 hH ?_;refine tk 12 hH ?_;refine tk 13 hH ?_;refine rd 1 (fun K hK=>?_);go_simp;refine (gg (HK7.out.quiet HOD.out)).mono ?_;rintro en w8 ⟨rfl,ho8⟩;have HO8:=Hd (HOD.out.trans ho8 (by simp));refine hK.out _ _ (HST.out _ (HK7.out.quiet HO8.out)) (fun hH=>?_);clear hK K ho8;refine tk 7 hH ?_;refine tk 14 hH ?_;refine tk 15 hH ?_;refine tk 16 hH ?_;refine tk 17 hH ?_;refine tk 18 hH ?_;have HZ8:=Hd (HO8.out.heap HZ.out (by simp));have s0:w8.cell? ⟨w.heap.size+1,0,none⟩=some (.int .i64 0):=ab 0 HZ8.out;have s1:w8.cell? ⟨w.heap.size+1,1,none⟩=some (.int .i64 0):=ab 1 HZ8.out;have s2:w8.cell? ⟨w.heap.size+1,2,none⟩=some (.int .i64 0):=ab 2 HZ8.out;have s3:w8.cell? ⟨w.heap.size+1,3,none⟩=some (.bool false):=ab 3 HZ8.out;have gs0:=ae 0 HZ8.out;have gs1:=ae 1 HZ8.out;have gs2:=ae 2 HZ8.out;have gs3:=ae 3 HZ8.out;clear hH;refine rd 19 (fun K hK=>?_);go_simp;have oz:Only [w.heap.size+1] w8 ((((w8.setCell ⟨w.heap.size+1,0,none⟩ (.int .i64 (dF s7))).setCell ⟨w.heap.size+1,1,none⟩ (.int .i64 (T:Int))).setCell ⟨w.heap.size+1,2,none⟩ (.int .i64 (N7:Int))).setCell ⟨w.heap.size+1,3,none⟩ (.bool tb)):=oc;have hz:=ci HZ8.out (.int .i64 (dF s7)) (.int .i64 (T:Int)) (.int .i64 (N7:Int)) (.bool tb);generalize (((w8.setCell ⟨w.heap.size+1,0,none⟩ (.int .i64 (dF s7))).setCell ⟨w.heap.size+1,1,none⟩ (.int .i64 (T:Int))).setCell ⟨w.heap.size+1,2,none⟩ (.int .i64 (N7:Int))).setCell ⟨w.heap.size+1,3,none⟩ (.bool tb)=wz at oz hz⊢;have hkz:CK wz g b1 b2 s7:=by
     refine (HK7.out.quiet HO8.out).past oz (fun k hk=>by rw [List.mem_singleton.1 hk];exact hgz) (fun k hk o ho cs fr e=>?_);rw [List.mem_singleton.1 hk,HZ8.out] at ho;rw [← Option.some.inj ho] at e;injection e with _ e2 _
     exact absurd e2 (by decide)
    refine hK.out _ _ (HST.out _ hkz) (fun hH=>?_);have HKZ:=Hd hkz;have HZZ:=Hd hz;have HOZ:=Hd oz;clear hK K hz hkz oz s0 s1 s2 s3 gs0 gs1 gs2 gs3;refine wpAnyH_done (by kernel_rfl) ?_ _;clear hH;(go_wp2_with fail);(try simp only [Exit.inBlock,Exit.then]);refine bodyPost_ret (b7 _ _ (w.heap.size+1) _ _ _ _ rfl HZZ.out) rfl ?_;refine ⟨dF s7,T,N7,tb,rfl,by rw [← HS7.out];exact HKZ.out,fun _=>⟨by rw [HS7.out];rfl,by rw [HT.out];rfl,by rw [HN7.out,HS7.out];rfl,?_⟩,(HO.out.trans HO8.out (by simp)).trans (T:=[w.heap.size+1]) HOZ.out (fun k hk=>.inr (by rw [List.mem_singleton.1 hk];omega))⟩;unfold opI;dsimp only;rw [← HS7.out,← HX2.out,HX0.out,← HC4.out,← HC3.out,HWI.out,HTB.out];simp
   ·have hx0':(x2 == 0)=false:=by simpa using hx0
    have HX0:=Hd hx0';clear hx0;refine wp_region_held_drew (S:=fun W=>W.cell? ⟨g,1,none⟩=some (.map (some b2))∧W.cell? ⟨g,4,none⟩=some (.int .i64 x2)∧∀ ty,(Builtin.len_ #[90] ty #[.map (some b2)]).run Tryz.prog W=.ok (.int .i64 (N7:Int)) W) (by kernel_rfl) (HST.out _ (HK7.out.quiet oD)) (fun hH=>?_);have HOD:=Hd oD;clear oD;generalize w7.drew=wd at HOD hH⊢;refine tk 0 hH ?_;refine tk 2 hH ?_;refine tk 3 hH ?_;refine tk 4 hH ?_;refine tk 5 hH ?_;refine tk 6 hH ?_;refine tk 8 hH ?_;refine tk 9 hH ?_;refine tk 10 hH ?_;refine tk 11 hH ?_;refine tk 12 hH ?_;refine tk 13 hH ?_;refine rd 1 (fun K hK=>?_);go_simp;refine (gg (HK7.out.quiet HOD.out)).mono ?_;rintro en w8 ⟨rfl,ho8⟩;have HO8:=Hd (HOD.out.trans ho8 (by simp));refine hK.out _ _ (HST.out _ (HK7.out.quiet HO8.out)) (fun hH=>?_);clear hK K ho8;refine tk 7 hH ?_;refine tk 14 hH ?_;refine sk 15 hH ?_;refine sk 16 hH ?_;refine tk 17 hH ?_;refine tk 18 hH ?_;have HZ8:=Hd (HO8.out.heap HZ.out (by simp));have s0:w8.cell? ⟨w.heap.size+1,0,none⟩=some (.int .i64 0):=ab 0 HZ8.out;have s1:w8.cell? ⟨w.heap.size+1,1,none⟩=some (.int .i64 0):=ab 1 HZ8.out;have s2:w8.cell? ⟨w.heap.size+1,2,none⟩=some (.int .i64 0):=ab 2 HZ8.out;have s3:w8.cell? ⟨w.heap.size+1,3,none⟩=some (.bool false):=ab 3 HZ8.out;have gs0:=ae 0 HZ8.out;have gs1:=ae 1 HZ8.out;have gs2:=ae 2 HZ8.out;have gs3:=ae 3 HZ8.out;clear hH;refine rd 19 (fun K hK=>?_);go_simp;have oz:Only [w.heap.size+1] w8 ((((w8.setCell ⟨w.heap.size+1,0,none⟩ (.int .i64 (dF s7))).setCell ⟨w.heap.size+1,1,none⟩ (.int .i64 (T:Int))).setCell ⟨w.heap.size+1,2,none⟩ (.int .i64 (N7:Int))).setCell ⟨w.heap.size+1,3,none⟩ (.bool false)):=oc;have hz:=ci HZ8.out (.int .i64 (dF s7)) (.int .i64 (T:Int)) (.int .i64 (N7:Int)) (.bool false);generalize (((w8.setCell ⟨w.heap.size+1,0,none⟩ (.int .i64 (dF s7))).setCell ⟨w.heap.size+1,1,none⟩ (.int .i64 (T:Int))).setCell ⟨w.heap.size+1,2,none⟩ (.int .i64 (N7:Int))).setCell ⟨w.heap.size+1,3,none⟩ (.bool false)=wz at oz hz⊢;have hkz:CK wz g b1 b2 s7:=by
     refine (HK7.out.quiet HO8.out).past oz (fun k hk=>by rw [List.mem_singleton.1 hk];exact hgz) (fun k hk o ho cs fr e=>?_);rw [List.mem_singleton.1 hk,HZ8.out] at ho;rw [← Option.some.inj ho] at e;injection e with _ e2 _
     exact absurd e2 (by decide)
    refine hK.out _ _ (HST.out _ hkz) (fun hH=>?_);have HKZ:=Hd hkz;have HZZ:=Hd hz;have HOZ:=Hd oz;clear hK K hz hkz oz s0 s1 s2 s3 gs0 gs1 gs2 gs3;refine wpAnyH_done (by kernel_rfl) ?_ _;clear hH;(go_wp2_with fail);(try simp only [Exit.inBlock,Exit.then]);refine bodyPost_ret (b7 _ _ (w.heap.size+1) _ _ _ _ rfl HZZ.out) rfl ?_;refine ⟨dF s7,T,N7,false,rfl,by rw [← HS7.out];exact HKZ.out,fun _=>⟨by rw [HS7.out];rfl,by rw [HT.out];rfl,by rw [HN7.out,HS7.out];rfl,?_⟩,(HO.out.trans HO8.out (by simp)).trans (T:=[w.heap.size+1]) HOZ.out (fun k hk=>.inr (by rw [List.mem_singleton.1 hk];omega))⟩;unfold opI;dsimp only;rw [← HS7.out,← HX2.out,HX0.out];simp
end
theorem cj (s:CS) (c p:Int):(s.fail c p).flt≠none:=by
 unfold CS.fail;cases h:s.flt with
 | none=>simp
 | some x=>simp [h]
theorem iC {s:CS} {nm:Sec} {t p:Int} (h:(s.declare nm t p).flt=none):s.flt=none:=by
 unfold CS.declare at h;split at h
 ·exact absurd h (cj _ _ _)
 ·split at h
  ·exact absurd h (cj _ _ _)
  ·exact h
theorem vB {s:CS} {nm:Sec} {p:Int} (h:(s.look nm p).2.flt=none):s.flt=none:=by
 unfold CS.look at h;split at h
 ·exact h
 ·split at h
  ·exact h
  ·exact absurd h (cj _ _ _)
mutual
theorem eP:∀ (e:E) (s:CS),(aI s e).2.flt=none→s.flt=none
 | .mk k n nm xs p,s,h=>by
  unfold aI at h;split at h
  ·exact vB h
  ·split at h
   ·have:=aP xs _ _ h;exact this
   ·split at h
    ·exact aP xs _ _ h
    ·split at h
     ·exact aP xs _ _ h
     ·split at h
      ·split at h
       ·exact pX xs _ h
       ·exact aP xs _ _ h
      ·exact h
theorem aP:∀ (xs:List E) (s:CS) (want:Int),(ay s want xs).flt=none→s.flt=none
 | [],s,want,h=>by unfold ay at h;exact h
 | e :: es,s,want,h=>by
  unfold ay at h;have h1:=aP es _ _ h;split at h1
  ·exact eP e s h1
  ·exact absurd h1 (cj _ _ _)
theorem pX:∀ (xs:List E) (s:CS),(cW s xs).flt=none→s.flt=none
 | [],s,h=>by unfold cW at h;exact h
 | e :: es,s,h=>by
  unfold cW at h;exact eP e s (aP es _ _ h)
end
mutual
def pS:St→Prop | .mk k _ _ _ bd els _=>(k≠6→els=[])∧(k≤5→bd=[])∧pB bd∧pB els
def pB:List St→Prop | []=>True | x :: xs=>pS x∧pB xs
end
theorem kZ:pB []:=by unfold pB;trivial
section
variable {ts:List Tok}
theorem ig {k:Int} (nm:Sec) (xs:List E) (p:Int):pS (.mk k nm xs 0 [] [] p):=by
 unfold pS;exact ⟨fun _=>rfl,fun _=>rfl,kZ,kZ⟩
theorem sS {i dp a:Nat} {s:St} (h:dE ts i dp=.ok (s,a)):pS s:=by
 unfold dE at h;split at h
 ·cases h
 ·split at h
  ·split at h
   ·cases h
   ·split at h<;>cases h
    exact ig _ _ _
  ·split at h
   ·split at h
    ·cases h
    ·split at h<;>cases h
     exact ig _ _ _
   ·cases h
theorem vC {i dp a:Nat} {s:St} (h:pw ts i dp=.ok (s,a)):pS s:=by
 unfold pw at h;split at h
 ·cases h
 ·split at h
  ·cases h
  ·split at h
   ·cases h
   ·split at h<;>cases h
    exact ig _ _ _
theorem sT:∀ f:Nat,(∀ i dp s a,bm ts f i dp=.ok (s,a)→pS s)∧(∀ i dp l a,aX ts f i dp=.ok (l,a)→pB l)∧(∀ i dp l a,aR ts f i dp=.ok (l,a)→pB l):=by
 intro f
 induction f with
 | zero=>
  refine ⟨fun i _ e a h=>?_,fun i _ e a h=>?_,fun i _ e a h=>?_⟩
  ·unfold bm at h;cases h
  ·unfold aX at h;cases h
  ·unfold aR at h;cases h
 | succ f ih=>
  obtain ⟨ih1,ih2,ih3⟩:=ih;refine ⟨fun i dp s a h=>?_,fun i dp l a h=>?_,fun i dp l a h=>?_⟩
  ·unfold bm at h;split at h
   ·exact sS h
   ·split at h
    ·exact vC h
    ·split at h
     ·split at h
      ·cases h
      ·split at h
       ·cases h
       ·rename_i bd c hb;split at h
        ·split at h
         ·cases h
         ·rename_i els d hd;cases h;unfold pS;exact ⟨fun e=>absurd rfl e,fun e=>absurd e (by omega),ih2 _ _ _ _ hb,ih2 _ _ _ _ hd⟩
        ·cases h;unfold pS;exact ⟨fun _=>rfl,fun e=>absurd e (by omega),ih2 _ _ _ _ hb,kZ⟩
     ·split at h
      ·split at h
       ·cases h
       ·split at h
        ·cases h
        ·rename_i bd c hb;cases h;unfold pS;exact ⟨fun _=>rfl,fun e=>absurd e (by omega),ih2 _ _ _ _ hb,kZ⟩
      ·cases h
  ·unfold aX at h;split at h
   ·cases h
   ·split at h
    ·split at h
     ·cases h
     ·rename_i l' b hs;split at h<;>cases h
      exact ih3 _ _ _ _ hs
    ·cases h
  ·unfold aR at h;split at h
   ·cases h;exact kZ
   ·split at h
    ·cases h
    ·rename_i s b hs;split at h
     ·cases h
     ·rename_i l' c hl;cases h;unfold pB;exact ⟨ih1 _ _ _ _ hs,ih3 _ _ _ _ hl⟩
theorem sU:∀ f i l a,bM ts f i=.ok (l,a)→pB l:=by
 intro f
 induction f with
 | zero=>intro i l a h;unfold bM at h;cases h
 | succ f ih=>
  intro i l a h;unfold bM at h;split at h
  ·cases h;exact kZ
  ·split at h
   ·cases h
   ·rename_i s b hs;split at h
    ·cases h
    ·rename_i l' d hl;cases h;unfold pB;exact ⟨(sT _).1 _ _ _ _ hs,ih _ _ _ hl⟩
end
theorem pY {l:Sec} {d:Df} (h:cq l=.ok d):pB d.body:=by
 unfold cq at h;split at h
 ·cases h
 ·split at h
  ·cases h
  ·split at h
   ·cases h
   ·rename_i d' hp;cases h;unfold fV at hp;split at hp
    ·cases hp
    ·rename_i d2 a hd;split at hp
     ·cases hp;unfold oV at hd;split at hd
      ·cases hd
      ·split at hd
       ·cases hd
       ·split at hd
        ·cases hd
        ·rename_i b a3 h3;split at hd
         ·cases hd
         ·split at hd<;>cases hd
          exact sU _ _ _ _ h3
     ·cases hp
mutual
theorem vD:∀ (x:St) (s:CS),wS x→pS x→(iP s x).flt=none→s.flt=none∧sz x
 | .mk k nm xs n bd els p,s,hw,hp,h=>by
  unfold wS at hw;unfold pS at hp;obtain ⟨hs,hn,hx,hb,he⟩:=hw;obtain ⟨p1,p2,p3,p4⟩:=hp;unfold iP at h
  by_cases h6:k=6
  ·rw [if_neg (by omega),if_pos h6] at h;obtain ⟨h1,h2⟩:=cK els _ he p4 h;obtain ⟨h3,h4⟩:=cK bd _ hb p3 h1;refine ⟨aP _ _ _ h3,?_⟩;unfold sz;exact ⟨fun e=>by omega,h4,h2⟩
  ·obtain rfl:=p1 h6
   by_cases h7:k=7∨k=8
   ·rw [if_neg (by omega),if_neg h6,if_pos h7] at h;obtain ⟨h1,h2⟩:=cK bd _ hb p3 h;have hn0:0≤n:=by
     rcases hs with hs | hs | hs<;>omega
    by_cases h64:64 < n
    ·rw [if_pos h64] at h1;exact absurd h1 (cj _ _ _)
    ·rw [if_neg h64] at h1;refine ⟨iC h1,?_⟩;unfold sz;exact ⟨fun _=>by omega,h2,by unfold kR;trivial⟩
   ·have h5:k≤5:=by
     rcases hs with hs | hs | hs<;>omega
    obtain rfl:=p2 h5;have hf:sz (.mk k nm xs n [] [] p):=by
     unfold sz kR;exact ⟨fun e=>absurd e h7,trivial,trivial⟩
    refine ⟨?_,hf⟩
    by_cases h1:k=1
    ·rw [if_pos h1] at h;split at h
     ·exact h
     ·exact eP _ _ (iC h)
    ·rw [if_neg h1,if_neg h6,if_neg h7] at h;exact aP _ _ _ h
theorem cK:∀ (xs:List St) (s:CS),wB xs→pB xs→(aT s xs).flt=none→s.flt=none∧kR xs
 | [],s,_,_,h=>by unfold aT at h;exact ⟨h,by unfold kR;trivial⟩
 | x :: xs,s,hw,hp,h=>by
  unfold wB at hw;unfold pB at hp;unfold aT at h;obtain ⟨h1,h2⟩:=cK xs _ hw.2 hp.2 h;obtain ⟨h3,h4⟩:=vD x _ hw.1 hp.1 h1;exact ⟨h3,by unfold kR;exact ⟨h4,h2⟩⟩
end
theorem opG_few {s:CS} {d:Df} (hw:Whole d) (hp:pB d.body) (h:(opG s d).flt=none):kR d.body:=(cK d.body _ hw.body hp (aP _ _ _ h)).2
end Go.Proofs.YtcebchffcmpfeaaGreat
