import Derived.Test.YtheanmadognhbaaGreatDoorG20t
namespace Go.Proofs.YtheanmadognhbaaGreatDoor
set_option linter.unusedVariables false
set_option linter.unusedSimpArgs false
set_option maxRecDepth 100000
set_option maxHeartbeats 16000000
open Go.RowKit Go.Maps
theorem mj {α β:Type} (g:α→β) (r:Except Nat (α×Nat)):aj (eI g r)=aj r:=by cases r<;>rfl
section
variable {ts:List Tok}
theorem pG (he:Ends ts):∀ (f i:Nat),i < ts.length→aP ts (aj (aY ts f i)):=by
 intro f
 induction f with
 | zero=>intro i hi;unfold aY;exact hi
 | succ f ih=>
  intro i hi;have had:=cr he hi;cases e:bB ts i with
  | error k=>rw [e] at had;rw [fI e];exact had.2
  | ok x=>
   obtain ⟨s,a⟩:=x;rw [e] at had;have had:i < a∧a < ts.length:=had;cases h:isT ts a [44] with
   | false=>rw [eJ e h];exact had.2
   | true=>rw [eK e h,mj];exact ih (a+1) (aO he had.2 h)
theorem sf (he:Ends ts):∀ (f i:Nat),i < ts.length→aP ts (aj (bA ts f i)):=by
 intro f
 induction f with
 | zero=>intro i hi;unfold bA;exact hi
 | succ f ih=>
  intro i hi;cases h:isT ts i [110,101,101,100] with
  | false=>rw [la h];exact hi
  | true=>
   have hi1:=aO he hi h;have h1:AdvP ts (i+1) (bk ts (aj (bE ts (i+1) 1)) [59]):=(((bs he _).1 (i+1) 1 1 hi1:Adv ts (i+1) (bE ts (i+1) 1)).next).eat he _;obtain ⟨h2,h3⟩:=nf (f:=f) h;cases e:bk ts (aj (bE ts (i+1) 1)) [59] with
   | error k=>rw [h2 k e];rw [e] at h1;exact h1.2
   | ok a=>
    obtain ⟨t,a0,_,h4⟩:=h3 a e;rw [h4,mj];rw [e] at h1;exact ih a h1.2
theorem vf (he:Ends ts):∀ (f i:Nat),i < ts.length→aP ts (aj (bW ts f i)):=by
 intro f
 induction f with
 | zero=>intro i hi;unfold bW;exact hi
 | succ f ih=>
  intro i hi;cases h1:isT ts i [103,105,118,101] with
  | true=>rw [go (.inl h1)];exact hi
  | false=>
   cases h2:isT ts i [125] with
   | true=>rw [go (.inr h2)];exact hi
   | false=>
    have h3:Adv ts i (pm ts i 1):=(dT he _).1 i 1 hi;cases e:pm ts i 1 with
    | error k=>rw [nh h1 h2 e];rw [e] at h3;exact h3.2
    | ok x=>
     obtain ⟨s,a⟩:=x;rw [e] at h3;rw [qI h1 h2 e,mj];exact ih a h3.2
theorem vh (he:Ends ts) {i:Nat} (hi:i < ts.length):aP ts (aj (fu ts i)):=by
 cases h:isT ts i [103,105,118,101] with
 | false=>rw [qJ h];exact hi
 | true=>
  rw [(qK h).1];exact ((((bs he _).1 (i+1) 1 1 (aO he hi h):Adv ts (i+1) (bE ts (i+1) 1)).next).eat he _).ok
theorem qL (he:Ends ts):aP ts (aj (oL ts)):=by
 have h0:aP ts (bk ts (.ok 0) [111,112]):=dv he (p:=.ok 0) he.pos _;have h1:aP ts (aj (dW ts)):=by
  unfold dW;revert h0;cases bk ts (.ok 0) [111,112] with
  | error k=>exact fun h=>h
  | ok i=>exact fun hi=>(cr he hi).next.ok
 have h2:aP ts (aj (dP ts)):=by
  have:=dv he h1 [40];unfold dP;revert this;cases bk ts (aj (dW ts)) [40] with
  | error k=>exact fun h=>h
  | ok i=>
   intro hi;show aP ts (aj (du ts i));unfold du;split
   ·exact hi
   ·exact pG he _ i hi
 have h3:aP ts (dQ ts):=dv he (dv he h2 [41]) [123];have h4:aP ts (aj (dN ts)):=by
  unfold dN;revert h3;cases dQ ts with
  | error k=>exact fun h=>h
  | ok i=>exact fun hi=>sf he _ i hi
 have h5:aP ts (aj (dB ts)):=by
  unfold dB;revert h4;cases aj (dN ts) with
  | error k=>exact fun h=>h
  | ok i=>exact fun hi=>vf he _ i hi
 have h6:aP ts (aj (dG ts)):=by
  unfold dG;revert h5;cases aj (dB ts) with
  | error k=>exact fun h=>h
  | ok i=>exact fun hi=>vh he hi
 have h7:=dv he h6 [125];rw [pA];unfold defS;revert h7;cases bk ts (aj (dG ts)) [125] with
 | error k=>exact fun h=>h
 | ok i=>exact fun h=>h
end
theorem ld:∀ (n at_:Nat) (l:Sec) (ts:List Tok),kL n at_ l=.ok ts→∃ us t,ts=us++[t]∧t.kind=4∧t.text=[]∧∀ u∈us,u.kind≠4∧u.text.length≤l.length
 | 0,at_,l,ts,h=>by
  simp only [kL,Except.ok.injEq] at h;exact ⟨[],_,h.symm,rfl,rfl,fun u hu=>by cases hu⟩
 | n+1,at_,l,ts,h=>by
  simp only [kL] at h;split at h
  ·simp only [Except.ok.injEq] at h;exact ⟨[],_,h.symm,rfl,rfl,fun u hu=>by cases hu⟩
  ·split at h
   ·cases h
   ·cases hx:kL n (at_+(al l).2+br false (l.drop (al l).2)) (l.drop ((al l).2+br false (l.drop (al l).2))) with
    | error e=>
     rw [hx] at h;cases h
    | ok us=>
     rw [hx] at h;obtain ⟨vs,t,rfl,h1,h2,h3⟩:=ld n _ _ us hx;have e:ts=⟨(al l).1,l.take (al l).2,at_⟩ :: (vs++[t]):=by
      have h':(Except.ok (⟨(al l).1,l.take (al l).2,at_⟩ :: (vs++[t])):Except Nat (List Tok))=.ok ts:=h;exact (Except.ok.inj h').symm
     refine ⟨⟨(al l).1,l.take (al l).2,at_⟩ :: vs,t,e,h1,h2,fun u hu=>?_⟩;rcases List.mem_cons.1 hu with rfl | hu
     ·refine ⟨?_,?_⟩
      ·have:=(oV l).2;show (al l).1≠4;omega
      ·show (l.take (al l).2).length≤l.length;rw [List.length_take];omega
     ·have:=h3 u hu;rw [List.length_drop] at this;exact ⟨this.1,by omega⟩
theorem ni {l:Sec} {ts:List Tok} (h:lex l=.ok ts):∃ us t,ts=us++[t]∧t.kind=4∧t.text=[]∧∀ u∈us,u.kind≠4∧u.text.length≤l.length:=by
 obtain ⟨us,t,h1,h2,h3,h4⟩:=ld _ _ _ _ h;refine ⟨us,t,h1,h2,h3,fun u hu=>⟨(h4 u hu).1,?_⟩⟩;have:=(h4 u hu).2;rw [List.length_drop] at this;omega
theorem iU {l:Sec} {ts:List Tok} (h:lex l=.ok ts):Ends ts:=by
 obtain ⟨us,t,rfl,h2,h3,h4⟩:=ni h;refine ⟨by simp,?_,fun i hi=>?_⟩
 ·unfold kAt;rw [show (us++[t]).length - 1=us.length by simp,List.getElem?_append_right (Nat.le_refl _)];simp [h2]
 ·have hi:i < us.length:=by simp at hi;omega
  unfold kAt;rw [List.getElem?_append_left hi,List.getElem?_eq_getElem hi];exact (h4 _ (List.getElem_mem hi)).1
theorem qM {l:Sec} {ts:List Tok} (h:lex l=.ok ts) (i:Nat):(xAt ts i).length≤l.length:=by
 obtain ⟨us,t,rfl,h2,h3,h4⟩:=ni h;unfold xAt;rcases Nat.lt_or_ge i us.length with hi | hi
 ·rw [List.getElem?_append_left hi,List.getElem?_eq_getElem hi];exact (h4 _ (List.getElem_mem hi)).2
 ·rw [List.getElem?_append_right hi];rcases Nat.eq_zero_or_pos (i - us.length) with e | e
  ·rw [e];simp [h3]
  ·rw [List.getElem?_eq_none (by simp;omega)];simp
theorem TS.of_own {w:World} {base:Nat} {v:Value} {l:Sec} {ts:List Tok} (h:lex l=.ok ts) (hl:l.length≤480) (ho:OTk w base v ts):TS w v ts:=
 ⟨ho.tv,iU h,by have:=uA h;omega,fun i=>by have:=qM h i;omega⟩
def bf (l:Sec):Except (Nat×Nat) Df:=
 if 480 < l.length then .error (2,0) else match lex l with
  | .error p=>.error (7,p)
  | .ok ts=>match f6 ts with
   | .error p=>.error (8,p)
   | .ok d=>.ok d
def PaRes (w:World) (r:Except (Nat×Nat) Df) (e:Ending) (w':World):Prop:=
 ∃ (s:ByteArray) (a1 a2 a3 a4:Option Addr) (l1 l2 l3 l4 c1 c2 c3 c4:Nat) (c p:Nat),e=.returned (.tuple #[.agg #[.string s,.slice a1 l1 c1,.slice a2 l2 c2,.slice a3 l3 c3,.slice a4 l4 c4],.int .i64 c,.int .i64 p])∧
  (∀ k q,r=.error (k,q)→c=k∧p=q)∧(∀ d,r=.ok d→c=0∧p=0∧DV w' (fun b=>w.heap.size≤b) d [.string s,.slice a1 l1 c1,.slice a2 l2 c2,.slice a3 l3 c3,.slice a4 l4 c4])∧Only [] w w'
def zeroD:List Value:=[.string ⟨#[]⟩,.slice none 0 0,.slice none 0 0,.slice none 0 0,.slice none 0 0]
def PaRes2 (w:World) (r:Except (Nat×Nat) Df) (e:Ending) (w':World):Prop:=
 ∃ (s:ByteArray) (a1 a2 a3 a4:Option Addr) (l1 l2 l3 l4 c1 c2 c3 c4:Nat) (c p:Nat),e=.returned (.tuple #[.agg #[.string s,.slice a1 l1 c1,.slice a2 l2 c2,.slice a3 l3 c3,.slice a4 l4 c4],.int .i64 c,.int .i64 p])∧
  (∀ k q,r=.error (k,q)→c=k∧p=q)∧(∀ d,r=.ok d→c=0∧p=0∧DV w' (fun b=>w.heap.size≤b) d [.string s,.slice a1 l1 c1,.slice a2 l2 c2,.slice a3 l3 c3,.slice a4 l4 c4])∧Only [] w w'∧
  ∀ k q,r=.error (k,q)→([.string s,.slice a1 l1 c1,.slice a2 l2 c2,.slice a3 l3 c3,.slice a4 l4 c4]:List Value)=zeroD
theorem eL (tmps:Array Value) (w:World) (g:Nat) (v0 v1 v2 v3 v4 z y:Value) (h6:tmps.getD 2 undef=.pointer (some ⟨g,0,none⟩)) (h7:tmps.getD 3 undef=z) (h8:tmps.getD 4 undef=y) (h:w.heap[g]?=some (.cells #[v0,v1,v2,v3,v4] 27 (0,0))) :
  (results Tryz.f22 tmps).run Tryz.prog w=.ok (.tuple #[.agg #[v0,v1,v2,v3,v4],z,y]) w:=by
 have c0:w.cell? ⟨g,0,none⟩=some v0:=ab 0 h;have c1:w.cell? ⟨g,1,none⟩=some v1:=ab 1 h;have c2:w.cell? ⟨g,2,none⟩=some v2:=ab 2 h;have c3:w.cell? ⟨g,3,none⟩=some v3:=ab 3 h;have c4:w.cell? ⟨g,4,none⟩=some v4:=ab 4 h;have hl:(loadVar 27 ⟨g,0,none⟩).run Tryz.prog w=.ok (.agg #[v0,v1,v2,v3,v4]) w:=by
  clear h;simp [go_sem,c0,c1,c2,c3,c4]
 have h6':tmps[2]?.getD undef=.pointer (some ⟨g,0,none⟩):=by simpa using h6
 have h7':tmps[3]?.getD undef=z:=by simpa using h7
 have h8':tmps[4]?.getD undef=y:=by simpa using h8
 simp [results,Tryz.results22,asAddr,h6',h7',h8',hl]
theorem lh (s:ByteArray) (w:World) (hs:s.size≤9223372036854775807):Calls Tryz.prog 22 #[.string s] w (PaRes2 w (bf s.data.toList)):=by
 obtain ⟨R,hR⟩:∃ R,R=bf s.data.toList:=⟨_,rfl⟩
 rw [← hR];have HR:=Hd hR;clear hR;have KT:=pd s (w.alloc (.cells #[.string ⟨#[]⟩,.slice none 0 0,.slice none 0 0,.slice none 0 0,.slice none 0 0] 27)) hs
 go_enter Tryz.func22,Tryz.ntmps22
 go_wp2_with fail
 refine KT.mono ?_;rintro e w1 ⟨v,c,p,rfl,hres,o1⟩;have HA:=Hd (o1.heap (ag w (.cells #[.string ⟨#[]⟩,.slice none 0 0,.slice none 0 0,.slice none 0 0,.slice none 0 0] 27)) (by simp));have HO:=Hd (((Only.refl [] w).alloc (.cells #[.string ⟨#[]⟩,.slice none 0 0,.slice none 0 0,.slice none 0 0,.slice none 0 0] 27)).trans o1 (by simp));clear KT o1;rcases hres with ⟨hl,rfl,rfl,rfl⟩ | ⟨hl,q,hlex,rfl,rfl,rfl⟩ | ⟨hl,ts,hlex,rfl,rfl,hown⟩
 ·have hRR:R=.error (2,0):=by rw [HR.out];unfold bf;rw [if_pos hl]
  have HRR:=Hd hRR;clear hRR hl;have s0:w1.cell? ⟨w.heap.size,0,none⟩=some (.string ⟨#[]⟩):=ab 0 HA.out;have s1:w1.cell? ⟨w.heap.size,1,none⟩=some (.slice none 0 0):=ab 1 HA.out;have s2:w1.cell? ⟨w.heap.size,2,none⟩=some (.slice none 0 0):=ab 2 HA.out;have s3:w1.cell? ⟨w.heap.size,3,none⟩=some (.slice none 0 0):=ab 3 HA.out;have s4:w1.cell? ⟨w.heap.size,4,none⟩=some (.slice none 0 0):=ab 4 HA.out;have gs0:=ac 0 HA.out;have gs1:=ac 1 HA.out;have gs2:=ac 2 HA.out;have gs3:=ac 3 HA.out;have gs4:=ac 4 HA.out;go_wp2_with fail
  have oz:Only [w.heap.size] w1 (((((w1.setCell ⟨w.heap.size,0,none⟩ (.string ⟨#[]⟩)).setCell ⟨w.heap.size,1,none⟩ (.slice none 0 0)).setCell ⟨w.heap.size,2,none⟩ (.slice none 0 0)).setCell ⟨w.heap.size,3,none⟩ (.slice none 0 0)).setCell ⟨w.heap.size,4,none⟩ (.slice none 0 0)):=oc;have hz:=ax HA.out (.string ⟨#[]⟩) (.slice none 0 0) (.slice none 0 0) (.slice none 0 0) (.slice none 0 0);generalize ((((w1.setCell ⟨w.heap.size,0,none⟩ (.string ⟨#[]⟩)).setCell ⟨w.heap.size,1,none⟩ (.slice none 0 0)).setCell ⟨w.heap.size,2,none⟩ (.slice none 0 0)).setCell ⟨w.heap.size,3,none⟩ (.slice none 0 0)).setCell ⟨w.heap.size,4,none⟩ (.slice none 0 0)=wz at oz hz⊢;(try simp only [Exit.inBlock,Exit.then]);refine bodyPost_ret (eL _ _ w.heap.size _ _ _ _ _ (.int .i64 2) (.int .i64 0) rfl rfl rfl hz) rfl ?_;refine ⟨⟨#[]⟩,none,none,none,none,0,0,0,0,0,0,0,0,2,0,rfl,fun k q e=>?_,fun d e=>?_,HO.out.trans (T:=[w.heap.size]) oz (fun k hk=>.inr (by rw [List.mem_singleton.1 hk];exact Nat.le_refl _)),fun _ _ _=>rfl⟩
  ·rw [HRR.out] at e;cases e;exact ⟨rfl,rfl⟩
  ·rw [HRR.out] at e;cases e
 ·have hRR:R=.error (7,q):=by rw [HR.out];unfold bf;rw [if_neg (by omega),hlex]
  have HRR:=Hd hRR;clear hRR hl hlex;have s0:w1.cell? ⟨w.heap.size,0,none⟩=some (.string ⟨#[]⟩):=ab 0 HA.out;have s1:w1.cell? ⟨w.heap.size,1,none⟩=some (.slice none 0 0):=ab 1 HA.out;have s2:w1.cell? ⟨w.heap.size,2,none⟩=some (.slice none 0 0):=ab 2 HA.out;have s3:w1.cell? ⟨w.heap.size,3,none⟩=some (.slice none 0 0):=ab 3 HA.out;have s4:w1.cell? ⟨w.heap.size,4,none⟩=some (.slice none 0 0):=ab 4 HA.out;have gs0:=ac 0 HA.out;have gs1:=ac 1 HA.out;have gs2:=ac 2 HA.out;have gs3:=ac 3 HA.out;have gs4:=ac 4 HA.out;go_wp2_with fail
  have oz:Only [w.heap.size] w1 (((((w1.setCell ⟨w.heap.size,0,none⟩ (.string ⟨#[]⟩)).setCell ⟨w.heap.size,1,none⟩ (.slice none 0 0)).setCell ⟨w.heap.size,2,none⟩ (.slice none 0 0)).setCell ⟨w.heap.size,3,none⟩ (.slice none 0 0)).setCell ⟨w.heap.size,4,none⟩ (.slice none 0 0)):=oc;have hz:=ax HA.out (.string ⟨#[]⟩) (.slice none 0 0) (.slice none 0 0) (.slice none 0 0) (.slice none 0 0);generalize ((((w1.setCell ⟨w.heap.size,0,none⟩ (.string ⟨#[]⟩)).setCell ⟨w.heap.size,1,none⟩ (.slice none 0 0)).setCell ⟨w.heap.size,2,none⟩ (.slice none 0 0)).setCell ⟨w.heap.size,3,none⟩ (.slice none 0 0)).setCell ⟨w.heap.size,4,none⟩ (.slice none 0 0)=wz at oz hz⊢;(try simp only [Exit.inBlock,Exit.then]);refine bodyPost_ret (eL _ _ w.heap.size _ _ _ _ _ (.int .i64 7) (.int .i64 (q:Int)) rfl rfl rfl hz) rfl ?_;refine ⟨⟨#[]⟩,none,none,none,none,0,0,0,0,0,0,0,0,7,q,rfl,fun k q e=>?_,fun d e=>?_,HO.out.trans (T:=[w.heap.size]) oz (fun k hk=>.inr (by rw [List.mem_singleton.1 hk];exact Nat.le_refl _)),fun _ _ _=>rfl⟩
  ·rw [HRR.out] at e;cases e;exact ⟨rfl,rfl⟩
  ·rw [HRR.out] at e;cases e
 ·have ht:=TS.of_own hlex hl hown;have hRR:R=match f6 ts with | .error p=>.error (8,p) | .ok d=>.ok d:=by rw [HR.out];unfold bf;rw [if_neg (by omega),hlex]
  obtain ⟨b,cap,rfl,-⟩:=ht.at_ ht.ends.pos;have hbase:w.heap.size+1≤b:=by
   have h9:=(hown.lt (k:=b) rfl).1;have:(w.alloc (.cells #[.string ⟨#[]⟩,.slice none 0 0,.slice none 0 0,.slice none 0 0,.slice none 0 0] 27)).heap.size=w.heap.size+1:=Array.size_push _;omega
  have HT:=Hd ht;have HRR:=Hd hRR;have hpos:=qL ht.ends;have hlen:=ht.len;have HL1:=Hd (show w.heap.size < w1.heap.size from am HA.out);clear hRR hl hlex hown ht;go_wp2_with fail
  refine (rdef_any HT.out).mono ?_;rintro e w2 ⟨sn,a1,a2,a3,a4,l1,l2,l3,l4,c1,c2,c3,c4,rfl,hv,o2⟩;have HV:=Hd hv;have HO2:=Hd o2;replace HA:=Hd (o2.heap HA.out (by simp));clear hv o2;go_upto_region 5 with (fail)
  obtain ⟨w3,q9,o3,hX,-⟩:=nb w2 (.cells #[.string sn,.slice a1 l1 c1,.slice a2 l2 c2,.slice a3 l3 c3,.slice a4 l4 c4] 27);rw [← q9];clear q9;replace HA:=Hd (o3.heap HA.out (by simp));have HX:=Hd hX;have HO3:=Hd o3;have HO03:=Hd ((HO.out.trans HO2.out (by simp)).trans o3 (by simp));have HT3:=Hd (HT.out.quiet (HO2.out.trans o3 (by simp)));clear o3 hX;obtain ⟨r,hr⟩:∃ r,r=oL ts:=⟨_,rfl⟩
  rw [← hr] at hpos HV⊢;have HRd:=Hd hr;clear hr;cases r with
  | error k=>
   have hk:k < ts.length:=hpos;have hRe:R=.error (8,pAt ts k):=by
    rw [HRR.out];unfold f6;rw [← HRd.out]
   have HRe:=Hd hRe;obtain ⟨y,hy,hy0,hy1⟩:=mV k;rw [show zR (.error k:Except Nat (Df×Nat))=y from hy];have hy2:IntKind.i64.wrap (-1 - y)=(k:Int):=by rw [IntKind.wrap_i64];omega
   clear hy hRe hy1;(go_upto_region 8 with (fail));have hk0:(0:Int)≤((k:Nat):Int):=by omega
   have hk1:((k:Nat):Int) < (ts.length:Int):=by omega
   have oD:Only [] w3 w3.drew:=(Only.refl [] w3).drew;obtain ⟨b',cap',hsl,-,-,c2'⟩:=(HT3.out.quiet oD).at_ hk;cases hsl;obtain ⟨pk,hpk⟩:∃ p,p=pAt ts k:=⟨_,rfl⟩
   rw [← hpk] at c2';have HPK:=Hd hpk;clear hpk;replace HA:=Hd (oD.heap HA.out (by simp));have hbA:b≠w.heap.size:=by omega
   refine wp_region_held_drew (S:=fun w'=>w'.cell? ⟨b,k*3+2,none⟩=some (.int .i64 (pk:Int))) (by kernel_rfl) c2' (fun hH=>?_);have HOd:=Hd oD;clear oD c2';generalize w3.drew=wd at HA HOd hH⊢;refine tk 0 hH ?_;refine tk 1 hH ?_;refine tk 2 hH ?_;refine tk 3 hH ?_;refine tk 4 hH ?_;refine tk 5 hH ?_;refine tk 6 hH ?_;have s0:wd.cell? ⟨w.heap.size,0,none⟩=some (.string ⟨#[]⟩):=ab 0 HA.out;have s1:wd.cell? ⟨w.heap.size,1,none⟩=some (.slice none 0 0):=ab 1 HA.out;have s2:wd.cell? ⟨w.heap.size,2,none⟩=some (.slice none 0 0):=ab 2 HA.out;have s3:wd.cell? ⟨w.heap.size,3,none⟩=some (.slice none 0 0):=ab 3 HA.out;have s4:wd.cell? ⟨w.heap.size,4,none⟩=some (.slice none 0 0):=ab 4 HA.out;have gs0:=ac 0 HA.out;have gs1:=ac 1 HA.out;have gs2:=ac 2 HA.out;have gs3:=ac 3 HA.out;have gs4:=ac 4 HA.out;refine rd 7 (fun K hK=>?_);go_simp;have oz:Only [w.heap.size] wd (((((wd.setCell ⟨w.heap.size,0,none⟩ (.string ⟨#[]⟩)).setCell ⟨w.heap.size,1,none⟩ (.slice none 0 0)).setCell ⟨w.heap.size,2,none⟩ (.slice none 0 0)).setCell ⟨w.heap.size,3,none⟩ (.slice none 0 0)).setCell ⟨w.heap.size,4,none⟩ (.slice none 0 0)):=oc;have hz:=ax HA.out (.string ⟨#[]⟩) (.slice none 0 0) (.slice none 0 0) (.slice none 0 0) (.slice none 0 0);have hcz:(((((wd.setCell ⟨w.heap.size,0,none⟩ (.string ⟨#[]⟩)).setCell ⟨w.heap.size,1,none⟩ (.slice none 0 0)).setCell ⟨w.heap.size,2,none⟩ (.slice none 0 0)).setCell ⟨w.heap.size,3,none⟩ (.slice none 0 0)).setCell ⟨w.heap.size,4,none⟩ (.slice none 0 0)).cell? ⟨b,k*3+2,none⟩=some (.int .i64 (pk:Int)):=ae oz hH (by simpa using hbA);generalize ((((wd.setCell ⟨w.heap.size,0,none⟩ (.string ⟨#[]⟩)).setCell ⟨w.heap.size,1,none⟩ (.slice none 0 0)).setCell ⟨w.heap.size,2,none⟩ (.slice none 0 0)).setCell ⟨w.heap.size,3,none⟩ (.slice none 0 0)).setCell ⟨w.heap.size,4,none⟩ (.slice none 0 0)=wz at oz hz hcz⊢;refine hK.out _ _ hcz (fun hH=>?_);have HZ:=Hd hz;clear hK K hz hcz s0 s1 s2 s3 s4 gs0 gs1 gs2 gs3 gs4;refine tk 8 hH ?_;refine tk 9 hH ?_;refine wpAnyH_done (by kernel_rfl) ?_ _;clear hH;(go_wp2_with fail);(try simp only [Exit.inBlock,Exit.then]);refine bodyPost_ret (eL _ _ w.heap.size _ _ _ _ _ (.int .i64 8) (.int .i64 (pk:Int)) rfl rfl rfl HZ.out) rfl ?_;refine ⟨⟨#[]⟩,none,none,none,none,0,0,0,0,0,0,0,0,8,pk,rfl,fun k q e=>?_,fun d e=>?_,(HO03.out.trans HOd.out (by simp)).trans (T:=[w.heap.size]) oz (fun k hk=>.inr (by rw [List.mem_singleton.1 hk];exact Nat.le_refl _)),fun _ _ _=>rfl⟩
   ·rw [HRe.out] at e;cases e;exact ⟨rfl,HPK.out⟩
   ·rw [HRe.out] at e;cases e
  | ok x=>
   obtain ⟨d,a9⟩:=x;have ha:a9 < ts.length:=hpos;have ha0:(0:Int)≤(a9:Int):=by omega
   have ha1:(a9:Int) < (ts.length:Int):=by omega
   rw [show zR (.ok (d,a9):Except Nat (Df×Nat))=(a9:Int) from rfl];obtain ⟨b',cap',hsl,c0,-,-⟩:=HT3.out.at_ ha;cases hsl;obtain ⟨kk,hkk⟩:∃ k,k=kAt ts a9:=⟨_,rfl⟩
   rw [← hkk] at c0
   by_cases h4:kk=4
   ·have hRe:R=.ok d:=by
     rw [HRR.out];unfold f6;rw [← HRd.out];dsimp only;rw [if_pos (hkk.symm.trans h4)]
    have HRe:=Hd hRe;subst h4;clear hRe hkk;have hn:¬ (a9:Int) < 0:=by omega
    have s0:w3.cell? ⟨w.heap.size,0,none⟩=some (.string ⟨#[]⟩):=ab 0 HA.out;have s1:w3.cell? ⟨w.heap.size,1,none⟩=some (.slice none 0 0):=ab 1 HA.out;have s2:w3.cell? ⟨w.heap.size,2,none⟩=some (.slice none 0 0):=ab 2 HA.out;have s3:w3.cell? ⟨w.heap.size,3,none⟩=some (.slice none 0 0):=ab 3 HA.out;have s4:w3.cell? ⟨w.heap.size,4,none⟩=some (.slice none 0 0):=ab 4 HA.out;have gs0:=ac 0 HA.out;have gs1:=ac 1 HA.out;have gs2:=ac 2 HA.out;have gs3:=ac 3 HA.out;have gs4:=ac 4 HA.out;have x0:w3.cell? ⟨w2.heap.size,0,none⟩=some (.string sn):=ab 0 HX.out;have x1:w3.cell? ⟨w2.heap.size,1,none⟩=some (.slice a1 l1 c1):=ab 1 HX.out;have x2:w3.cell? ⟨w2.heap.size,2,none⟩=some (.slice a2 l2 c2):=ab 2 HX.out;have x3:w3.cell? ⟨w2.heap.size,3,none⟩=some (.slice a3 l3 c3):=ab 3 HX.out;have x4:w3.cell? ⟨w2.heap.size,4,none⟩=some (.slice a4 l4 c4):=ab 4 HX.out;(go_wp2_with fail);have oz:Only [w.heap.size] w3 (((((w3.setCell ⟨w.heap.size,0,none⟩ (.string sn)).setCell ⟨w.heap.size,1,none⟩ (.slice a1 l1 c1)).setCell ⟨w.heap.size,2,none⟩ (.slice a2 l2 c2)).setCell ⟨w.heap.size,3,none⟩ (.slice a3 l3 c3)).setCell ⟨w.heap.size,4,none⟩ (.slice a4 l4 c4)):=oc;have hz:=ax HA.out (.string sn) (.slice a1 l1 c1) (.slice a2 l2 c2) (.slice a3 l3 c3) (.slice a4 l4 c4);generalize ((((w3.setCell ⟨w.heap.size,0,none⟩ (.string sn)).setCell ⟨w.heap.size,1,none⟩ (.slice a1 l1 c1)).setCell ⟨w.heap.size,2,none⟩ (.slice a2 l2 c2)).setCell ⟨w.heap.size,3,none⟩ (.slice a3 l3 c3)).setCell ⟨w.heap.size,4,none⟩ (.slice a4 l4 c4)=wz at oz hz⊢;(try simp only [Exit.inBlock,Exit.then]);refine bodyPost_ret (eL _ _ w.heap.size _ _ _ _ _ (.int .i64 0) (.int .i64 0) rfl rfl rfl hz) rfl ?_;refine ⟨sn,a1,a2,a3,a4,l1,l2,l3,l4,c1,c2,c3,c4,0,0,rfl,fun k q e=>?_,fun d' e=>?_,HO03.out.trans (T:=[w.heap.size]) oz (fun k hk=>.inr (by rw [List.mem_singleton.1 hk];exact Nat.le_refl _)),fun k q e=>by rw [HRe.out] at e;cases e⟩
    ·rw [HRe.out] at e;cases e
    ·rw [HRe.out] at e;cases e;refine ⟨rfl,rfl,((HV.out d a9 rfl).kept HO3.out (by simp) (fun _ h=>h)).kept oz (fun k hk hB=>?_) (fun b hb=>?_)⟩
     ·rw [List.mem_singleton.1 hk] at hB;have h8:=am HA.out;have h9:=HL1.out;exact absurd (show w1.heap.size≤w.heap.size from hB) (by omega)
     ·have h9:=HL1.out;have:w1.heap.size≤b:=hb;omega
   ·have hRe:R=.error (8,pAt ts a9):=by
     rw [HRR.out];unfold f6;rw [← HRd.out];dsimp only;rw [if_neg (fun e=>h4 (hkk.trans e))]
    have HRe:=Hd hRe;have h4':((kk:Int) != 4)=true:=by simp;omega
    have KB:=cw a9 (by omega) w3;obtain ⟨y,hy⟩:∃ y:Int,y=-1 - (a9:Int):=⟨_,rfl⟩
    rw [← hy] at KB;have hy0:y < 0:=by omega
    have hy2:IntKind.i64.wrap (-1 - y)=(a9:Int):=by rw [IntKind.wrap_i64];omega
    clear hRe hkk hy;(go_wp2_with fail);refine KB.mono ?_;rintro e w' ⟨rfl,rfl⟩;(go_upto_region 8 with (fail));clear c0 ha0 ha1;have hk0:(0:Int)≤((a9:Nat):Int):=by omega
    have hk1:((a9:Nat):Int) < (ts.length:Int):=by omega
    have oD:Only [] w3 w3.drew:=(Only.refl [] w3).drew;obtain ⟨b',cap',hsl,-,-,c2'⟩:=(HT3.out.quiet oD).at_ ha;cases hsl;obtain ⟨pk,hpk⟩:∃ p,p=pAt ts a9:=⟨_,rfl⟩
    rw [← hpk] at c2';have HPK:=Hd hpk;clear hpk;replace HA:=Hd (oD.heap HA.out (by simp));have hbA:b≠w.heap.size:=by omega
    refine wp_region_held_drew (S:=fun w'=>w'.cell? ⟨b,a9*3+2,none⟩=some (.int .i64 (pk:Int))) (by kernel_rfl) c2' (fun hH=>?_);have HOd:=Hd oD;clear oD c2';generalize w3.drew=wd at HA HOd hH⊢;refine tk 0 hH ?_;refine tk 1 hH ?_;refine tk 2 hH ?_;refine tk 3 hH ?_;refine tk 4 hH ?_;refine tk 5 hH ?_;refine tk 6 hH ?_;have s0:wd.cell? ⟨w.heap.size,0,none⟩=some (.string ⟨#[]⟩):=ab 0 HA.out;have s1:wd.cell? ⟨w.heap.size,1,none⟩=some (.slice none 0 0):=ab 1 HA.out;have s2:wd.cell? ⟨w.heap.size,2,none⟩=some (.slice none 0 0):=ab 2 HA.out;have s3:wd.cell? ⟨w.heap.size,3,none⟩=some (.slice none 0 0):=ab 3 HA.out;have s4:wd.cell? ⟨w.heap.size,4,none⟩=some (.slice none 0 0):=ab 4 HA.out;have gs0:=ac 0 HA.out;have gs1:=ac 1 HA.out;have gs2:=ac 2 HA.out;have gs3:=ac 3 HA.out;have gs4:=ac 4 HA.out;refine rd 7 (fun K hK=>?_);go_simp;have oz:Only [w.heap.size] wd (((((wd.setCell ⟨w.heap.size,0,none⟩ (.string ⟨#[]⟩)).setCell ⟨w.heap.size,1,none⟩ (.slice none 0 0)).setCell ⟨w.heap.size,2,none⟩ (.slice none 0 0)).setCell ⟨w.heap.size,3,none⟩ (.slice none 0 0)).setCell ⟨w.heap.size,4,none⟩ (.slice none 0 0)):=oc;have hz:=ax HA.out (.string ⟨#[]⟩) (.slice none 0 0) (.slice none 0 0) (.slice none 0 0) (.slice none 0 0);have hcz:(((((wd.setCell ⟨w.heap.size,0,none⟩ (.string ⟨#[]⟩)).setCell ⟨w.heap.size,1,none⟩ (.slice none 0 0)).setCell ⟨w.heap.size,2,none⟩ (.slice none 0 0)).setCell ⟨w.heap.size,3,none⟩ (.slice none 0 0)).setCell ⟨w.heap.size,4,none⟩ (.slice none 0 0)).cell? ⟨b,a9*3+2,none⟩=some (.int .i64 (pk:Int)):=ae oz hH (by simpa using hbA);generalize ((((wd.setCell ⟨w.heap.size,0,none⟩ (.string ⟨#[]⟩)).setCell ⟨w.heap.size,1,none⟩ (.slice none 0 0)).setCell ⟨w.heap.size,2,none⟩ (.slice none 0 0)).setCell ⟨w.heap.size,3,none⟩ (.slice none 0 0)).setCell ⟨w.heap.size,4,none⟩ (.slice none 0 0)=wz at oz hz hcz⊢;refine hK.out _ _ hcz (fun hH=>?_);have HZ:=Hd hz;clear hK K hz hcz s0 s1 s2 s3 s4 gs0 gs1 gs2 gs3 gs4;refine tk 8 hH ?_;refine tk 9 hH ?_;refine wpAnyH_done (by kernel_rfl) ?_ _;clear hH;(go_wp2_with fail);(try simp only [Exit.inBlock,Exit.then]);refine bodyPost_ret (eL _ _ w.heap.size _ _ _ _ _ (.int .i64 8) (.int .i64 (pk:Int)) rfl rfl rfl HZ.out) rfl ?_;refine ⟨⟨#[]⟩,none,none,none,none,0,0,0,0,0,0,0,0,8,pk,rfl,fun k q e=>?_,fun d e=>?_,(HO03.out.trans HOd.out (by simp)).trans (T:=[w.heap.size]) oz (fun k hk=>.inr (by rw [List.mem_singleton.1 hk];exact Nat.le_refl _)),fun _ _ _=>rfl⟩
    ·rw [HRe.out] at e;cases e;exact ⟨rfl,HPK.out⟩
    ·rw [HRe.out] at e;cases e
theorem sg (s:ByteArray) (w:World) (hs:s.size≤9223372036854775807):Calls Tryz.prog 22 #[.string s] w (PaRes w (bf s.data.toList)):=by
 refine (lh s w hs).mono ?_;rintro e w' ⟨s,a1,a2,a3,a4,l1,l2,l3,l4,c1,c2,c3,c4,c,p,h1,h2,h3,h4,-⟩;exact ⟨s,a1,a2,a3,a4,l1,l2,l3,l4,c1,c2,c3,c4,c,p,h1,h2,h3,h4⟩
end Go.Proofs.YtheanmadognhbaaGreatDoor
