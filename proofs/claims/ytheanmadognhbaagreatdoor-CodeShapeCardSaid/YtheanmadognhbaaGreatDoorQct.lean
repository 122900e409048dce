import Derived.Test.YtheanmadognhbaaGreatDoorQbt
namespace Go.Proofs.YtheanmadognhbaaGreatDoor
set_option linter.unusedVariables false
set_option linter.unusedSimpArgs false
set_option maxRecDepth 100000
set_option maxHeartbeats 16000000
open Go.RowKit Go.Maps
theorem tB (w:World) (k nn p:Int) (nm:Sec) (a:Option Addr) (l c:Nat) (i:Nat) (ts:List Int) (x:Int) (hx:ts[0]?=some x) (b n vc:Nat) (cx:w.cell? ⟨b,0,none⟩=some (.int .i64 x)) (hp:0 < n) :
  Calls Tryz.prog 113 #[.agg #[.int .i64 k,.int .i64 nn,.string (ai nm),.slice a l c,.int .i64 p],.int .i64 (i:Int),.slice (some ⟨b,0,none⟩) n vc] w fun e w'=>e=.returned (.int .i64 (dU k nm i ts))∧Only [] w w':=by
 obtain ⟨N,hN⟩:∃ N,N=ai nm:=⟨_,rfl⟩
 rw [← hN];have hd:N.data.toList=nm:=by rw [hN];simp [ai]
 obtain ⟨R,hR⟩:∃ R,R=dU k nm i ts:=⟨_,rfl⟩
 rw [← hR];unfold dU at hR;rw [hx] at hR;have hp':(0:Int) < (n:Int):=by omega
 clear hN hx hp
 by_cases h4:k=4
 ·rw [if_pos h4] at hR;subst h4 hR;clear hd
  go_enter Tryz.func113,Tryz.ntmps113
  go_wp2_with fail
  go_ret;exact ⟨rfl,(Only.refl [] w).alloc _⟩
 ·rw [if_neg h4] at hR;have h4':(k == 4)=false:=by simpa using h4
  by_cases h6:k=6
  ·rw [if_neg (by simpa using h6)] at hR;subst h6;have hb:=World.block_lt_of_cell? _ _ cx;have hb2:b≠w.heap.size:=Nat.ne_of_lt hb
   by_cases h1:nm=[38,38]∨nm=[124,124]
   ·rw [if_pos h1] at hR;subst hR;rcases h1 with h1 | h1<;>
    ·obtain rfl:=aJ.2 (hd.trans h1);clear hd h1 h4 h4' cx hb hb2
     go_enter Tryz.func113,Tryz.ntmps113
     (go_wp2_with fail);go_ret;exact ⟨rfl,(Only.refl [] w).alloc _⟩
   ·rw [if_neg h1] at hR;have n1:(N.toList == [38,38])=false:=bw (fun e=>h1 (.inl (hd.symm.trans e)));have n2:(N.toList == [124,124])=false:=bw (fun e=>h1 (.inr (hd.symm.trans e)))
    by_cases h2:nm=[61,61]∨nm=[33,61]
    ·rw [if_pos h2] at hR
     by_cases hi:i=0
     ·rw [if_pos hi] at hR;subst hi hR;rcases h2 with h2 | h2<;>
      ·obtain rfl:=aJ.2 (hd.trans h2);clear hd h2 h1 n1 n2 h4 h4' cx hb hb2
       go_enter Tryz.func113,Tryz.ntmps113
       (go_wp2_with fail);go_ret;exact ⟨rfl,(Only.refl [] w).alloc _⟩
     ·rw [if_neg hi] at hR;obtain ⟨I,hI⟩:∃ I:Int,I=i:=⟨_,rfl⟩
      rw [← hI];have hi':(I == 0)=false:=by rw [hI];simp;omega
      replace hR:R=x:=hR;subst hR;rcases h2 with h2 | h2
      ·skip
       obtain rfl:=aJ.2 (hd.trans h2);clear hd h2 h1 n1 n2 h4 h4' hi hI
       go_enter Tryz.func113,Tryz.ntmps113
       (go_upto_region 13 with (fail));obtain ⟨w2,q9,oz,-,-⟩:=nb w (.cells #[.int .i64 6,.int .i64 nn,.string ⟨#[61,61]⟩,.slice a l c,.int .i64 p] 72);rw [← q9];clear q9;have cz:=ae oz cx (by simp);clear cx hb hb2;(go_wp2_with fail);go_ret;exact ⟨rfl,oz⟩
      ·skip
       obtain rfl:=aJ.2 (hd.trans h2);clear hd h2 h1 n1 n2 h4 h4' hi hI
       go_enter Tryz.func113,Tryz.ntmps113
       (go_upto_region 13 with (fail));obtain ⟨w2,q9,oz,-,-⟩:=nb w (.cells #[.int .i64 6,.int .i64 nn,.string ⟨#[33,61]⟩,.slice a l c,.int .i64 p] 72);rw [← q9];clear q9;have cz:=ae oz cx (by simp);clear cx hb hb2;(go_wp2_with fail);go_ret;exact ⟨rfl,oz⟩
    ·rw [if_neg h2] at hR;have n3:(N.toList == [61,61])=false:=bw (fun e=>h2 (.inl (hd.symm.trans e)));have n4:(N.toList == [33,61])=false:=bw (fun e=>h2 (.inr (hd.symm.trans e)));subst hR;clear hd h2 h1 h4 h4' cx hb hb2
     go_enter Tryz.func113,Tryz.ntmps113
     (go_wp2_with fail);go_ret;exact ⟨rfl,(Only.refl [] w).alloc _⟩
  ·rw [if_pos (by simpa using h6)] at hR;have h6':(k != 6)=true:=by simpa using h6
   subst hR;clear hd h4 h6
   go_enter Tryz.func113,Tryz.ntmps113
   (go_wp2_with fail);go_ret;exact ⟨rfl,(Only.refl [] w).alloc _⟩
section
variable {w w' w2:World} {lo g base:Nat} {v v' x:Value} {r:RS}
theorem RT.own {S:List Nat} (h:RT w w' g v v') (ho:Only S w' w2) (hs:∀ k∈S,w.heap.size≤k):RT w w2 g v v':=
 ⟨h.only.trans ho (fun k hk=>.inr (hs k hk)),h.src⟩
theorem row_ty {n:Nat} {xs:List Value} (h:w.ownsRow base 3 1 x n xs) {k:Nat} {t:TypeId} {c:Array Value} {fr:Nat×Nat} (hk:x.ownBlock=some k) (hg:w.heap[k]?=some (.cells c t fr)):t=3:=by
 rcases h.2 with ⟨rfl,_⟩ | ⟨b,cap,cur,rfl,hb,hg',_⟩
 ·cases hk
 ·obtain rfl:b=k:=by simpa [Value.ownBlock] using hk
  rw [hg'] at hg;simp only [Option.some.injEq,Obj.cells.injEq] at hg;exact hg.2.1.symm
theorem iZ {n:Nat} {xs:List Value} (h:w.ownsRow base 3 1 x n xs) (ho:Only x.ownBlock.toList w w') {k:Nat} {t:TypeId} {c:Array Value} {fr:Nat×Nat} (hg:w.heap[k]?=some (.cells c t fr)) (ht:t≠3):w'.heap[k]?=some (.cells c t fr):=
 ho.heap hg (fun e=>ht (row_ty h (by simpa using e) hg))
theorem RK.row_int {n:Nat} {xs:List Value} (hr:RK w lo g v r) (h:w.ownsRow base 3 1 x n xs) (ho:Only x.ownBlock.toList w w'):RK w' lo g v r:=by
 refine ⟨iZ h ho hr.row (by decide),?_,hr.lo_le,hr.len⟩;refine ⟨hr.own.1,?_⟩;rcases hr.own.2 with hn | ⟨b,cap,cur,rfl,hb,hg,q⟩
 ·exact .inl hn
 ·exact .inr ⟨b,cap,cur,rfl,hb,iZ h ho hg (by decide),q⟩
theorem OKn.row_int {n:Nat} {xs:List Value} {y:Value} {l:List (Sec×Int)} (hr:OKn w y l) (h:w.ownsRow base 3 1 x n xs) (ho:Only x.ownBlock.toList w w'):OKn w' y l:=by
 refine ⟨hr.1,?_⟩;rcases hr.2 with hn | ⟨b,cap,cur,rfl,hb,hg,q⟩
 ·exact .inl hn
 ·exact .inr ⟨b,cap,cur,rfl,hb,iZ h ho hg (by decide),q⟩
theorem row_rt {n:Nat} {xs:List Value} (h:w.ownsRow base 3 1 x n xs) (hr:RK w lo g v r) (ht:RT w w' g v v'):w'.ownsRow base 3 1 x n xs:=by
 refine ⟨h.1,?_⟩;rcases h.2 with hn | ⟨b,cap,cur,rfl,hb,hg,q⟩
 ·exact .inl hn
 ·exact .inr ⟨b,cap,cur,rfl,hb,ht.heap hr hg (by decide) (by decide),q⟩
theorem gV {n:Nat} {xs:List Value} (h:w.ownsRow base 3 1 x n xs) (ho:Only [] w w'):w'.ownsRow base 3 1 x n xs:=by
 refine ⟨h.1,?_⟩;rcases h.2 with hn | ⟨b,cap,cur,rfl,hb,hg,q⟩
 ·exact .inl hn
 ·exact .inr ⟨b,cap,cur,rfl,hb,ho.heap hg (by simp),q⟩
theorem xq {b n cap:Nat} {ts:List Int} {t:Int} (h:w.ownsRow base 3 1 (.slice (some ⟨b,0,none⟩) n cap) n (iv ts)) (ht:ts[0]?=some t):w.cell? ⟨b,0,none⟩=some (.int .i64 t):=by
 rcases h.2 with ⟨e,hn⟩ | ⟨b',cap',cur,e,hb,hg,hc,_,hz,htk⟩
 ·cases e
 ·cases e;have hlt:0 < ts.length:=(List.getElem?_eq_some_iff.1 ht).1;have h1:(iv ts)[0]?=some (Value.int .i64 t):=by simp [iv,ht]
  have hl:=h.1;rw [fU] at hl;rw [ab _ hg];rw [← htk,List.getElem?_take_of_lt (by omega)] at h1;simpa using h1
end
theorem tC {r:RS} {k:Int} {nm:Sec} {xs:List E} {env:Env} {ts:List Int} {j:Nat} {e:E} (hj:xs[j]?=some e) (hl:ts.length=j) :
  bC r k nm (xs.drop j) env ts=bC (if dU k nm j (ts++[(aR r e env).1])≠0∧(aR r e env).1≠dU k nm j (ts++[(aR r e env).1]) then (aR r e env).2.fail 10 e.pos else (aR r e env).2) k nm (xs.drop (j+1)) env (ts++[(aR r e env).1]):=by
 obtain ⟨hlt,rfl⟩:=List.getElem?_eq_some_iff.1 hj;rw [List.drop_eq_getElem_cons hlt]
 conv=>lhs;unfold bC
 rw [hl]
theorem tD {env:Env} {nm:Sec} {j:Nat} {y:Sec×Int} (hj:env[j]?=some y):bj (env.drop j) nm=if y.1=nm then some y.2 else bj (env.drop (j+1)) nm:=by
 obtain ⟨hlt,rfl⟩:=List.getElem?_eq_some_iff.1 hj;rw [List.drop_eq_getElem_cons hlt,dd]
theorem tE {r:RS} {nm:Sec} {p t:Int} {env:Env} (ht:¬ (nm=[116,114,117,101]∨nm=[102,97,108,115,101])) (h:bj env nm=some t):eC r 2 nm p env=(t,r):=by
 unfold eC;rw [if_pos rfl,if_neg ht,h]
theorem tF {r:RS} {nm:Sec} {p:Int} {env:Env} (ht:¬ (nm=[116,114,117,101]∨nm=[102,97,108,115,101])) (h:bj env nm=none):eC r 2 nm p env=(1,r.fail 9 p):=by
 unfold eC;rw [if_pos rfl,if_neg ht,h]
def xr (N:Nat):Prop:=∀ (e:E),aw e≤N→∀ (w:World) (lo g:Nat) (v:Value) (r:RS) (cs:List Value) (B:Nat→Prop) (env:Env) (ve:Value),RK w lo g v r→EV w B e cs→(∀ k,B k→k < lo)→OKn w ve env→env.length≤1000000→
 Calls Tryz.prog 92 #[.pointer (some ⟨g,0,none⟩),.agg cs.toArray,ve] w fun en w'=>en=.returned (.int .i64 (aR r e env).1)∧∃ v',RK w' lo g v' (aR r e env).2∧RT w w' g v v'
theorem tG (N:Nat) (hNN:N≤1000000) (IK:xr N):xr (N+1):=by
 intro e he w lo g v r cs B env ve hr hv hB hve henv;obtain ⟨k,nn,nm,xs,p⟩:=e;obtain ⟨R,hR⟩:∃ R,R=aR r (.mk k nn nm xs p) env:=⟨_,rfl⟩
 rw [← hR];unfold aR at hR;rw [cy] at he;unfold EV at hv;obtain ⟨a,cap,rfl,hc,hx⟩:=hv;have hxs:=EsV.of_parts hc hx;obtain ⟨n,hn⟩:∃ n,n=xs.length:=⟨_,rfl⟩
 have hlen:=dF xs;rw [← hn] at hxs hlen⊢;obtain ⟨sn,hsn⟩:∃ sn,sn=ai nm:=⟨_,rfl⟩
 rw [← hsn];have HR:=Hd hR;have HK:=Hd hr;have HX:=Hd hxs;have HB:=Hd hB;have HE:=Hd hve;have HN:=Hd hn;have HSN:=Hd hsn;have hnb:n≤1000000:=by omega
 obtain ⟨A,hA⟩:∃ A,A=bC r k nm xs env []:=⟨_,rfl⟩
 have HA:=Hd hA;clear hR hr hx hc hxs hB hve hn hsn hA
 go_enter Tryz.func92,Tryz.ntmps92
 go_upto_region 3 with (fail)
 obtain ⟨w1,q9,oA,hb,-⟩:=nb w (.cells #[.int .i64 k,.int .i64 nn,.string sn,.slice a n cap,.int .i64 p] 72);rw [← q9];clear q9;have HBX:=Hd hb;have HOA:=Hd oA;obtain ⟨gb,hgb⟩:∃ gb,gb=w.heap.size:=⟨_,rfl⟩
 rw [← hgb] at HBX⊢;have HGB:=Hd hgb;clear oA hb hgb
 go_loopw [7,8] (fun vt ix wr=>∃ (j:Nat) (ts:List Int) (vj:Value) (rj:RS),j≤n∧ix=.int .i64 (j:Int)∧Hid (ts.length=j)∧Hid (wr.ownsRow w.heap.size 3 1 vt j (iv ts))∧Hid (RK wr lo g vj rj)∧Hid (RT w wr g v vj)∧
  Hid (A=bC rj k nm (xs.drop j) env ts)∧Hid (wr.heap[gb]?=some (.cells #[.int .i64 k,.int .i64 nn,.string sn,.slice a n cap,.int .i64 p] 72 (0,0)))∧Hid (OKn wr ve env)∧Hid (EsV wr B (.slice a n cap) xs)) (fun _ ix _=>n - (intOf ix).toNat)
 case atStart=>exact ⟨0,[],v,r,Nat.zero_le _,rfl,Hd rfl,Hd (World.ownsRow_nil _ _ _ _),Hd (HK.out.quiet HOA.out),Hd (RT.of_quiet HOA.out g v),Hd (by rw [HA.out,List.drop_zero]),HBX,Hd (HE.out.kept HOA.out (by simp)),Hd (HX.out.quiet HOA.out)⟩
 case round=>
  obtain ⟨j,ts,vj,rj,hjn,rfl,HTL,HTS,HKj,HTj,HAj,HBj,HEj,HXj⟩:=hrel
  by_cases hlt:j < n
  ·have hlt':(j:Int) < (n:Int):=by omega
   have j0:(0:Int)≤(j:Int):=by omega
   obtain ⟨-,gr,k',nn',nm',ys,p',a',c',rfl,he',x0,x1,x2,x3,x4,hv'⟩:=HXj.out.elem hlt;have hT1:=bu he';have hAj:=HAj.out;rw [tC he' HTL.out] at hAj;obtain ⟨e',hee⟩:∃ e',e'=E.mk k' nn' nm' ys p':=⟨_,rfl⟩
   obtain ⟨sn',hsn'⟩:∃ s,s=ai nm':=⟨_,rfl⟩
   obtain ⟨L,hL⟩:∃ L,L=ys.length:=⟨_,rfl⟩
   have hev:EV wr B e' [.int .i64 k',.int .i64 nn',.string sn',.slice a' L c',.int .i64 p']:=by rw [hee,hsn',hL];exact EV.mk' hv'
   have hpos:e'.pos=p':=by rw [hee];rfl
   have hpx:∀ W,EsV W B (.slice (some ⟨gr,0,none⟩) n cap) xs→W.cell? ⟨gr,j*5+4,none⟩=some (.int .i64 p'):=fun W hW=>by
    obtain ⟨-,gr2,k2,nn2,nm2,ys2,p2,a2,c2,e1,e2,-,-,-,-,e3,-⟩:=hW.elem hlt;cases e1;rw [he'] at e2;cases e2;exact e3
   rw [← hee] at hT1 hAj;rw [← hsn'] at x2;rw [← hL] at x3;have K1:=IK e' (by omega) wr lo g vj rj _ B env ve HKj.out hev HB.out HEj.out henv;obtain ⟨t,ht⟩:∃ t,t=(aR rj e' env).1:=⟨_,rfl⟩
   obtain ⟨r2,hr2⟩:∃ r2,r2=(aR rj e' env).2:=⟨_,rfl⟩
   rw [← ht,← hr2] at K1 hAj;rw [hpos] at hAj;have HAJ:=Hd hAj;have b3:wr.cell? ⟨gb,3,none⟩=some (.slice (some ⟨gr,0,none⟩) n cap):=ab 3 HBj.out;have HPX:=Hd hpx;clear hpx hT1 hAj hee hsn' hL hev hpos ht hr2 he' hv' HAj;(go_wp2_with fail);refine K1.mono ?_;rintro en w5 ⟨rfl,v5,hk5,ht5⟩;have hbx5:=ht5.heap HKj.out HBj.out (by decide) (by decide);have hts5:=row_rt HTS.out HKj.out ht5;have hkn5:=HEj.out.rt HKj.out ht5;have hxs5:=HXj.out.kept ht5.only (fun q hq hb=>HKj.out.below q hq (HB.out q hb)) (fun _ h=>h);have HK5:=Hd hk5;have HT5:=Hd (HTj.out.trans ht5);have HBX5:=Hd hbx5;have HTS5:=Hd hts5;have HE5:=Hd hkn5;have HX5:=Hd hxs5;have hsz5:w.heap.size≤w5.heap.size:=HT5.out.only.size;clear hk5 ht5 hbx5 hts5 hkn5 hxs5 K1 x0 x1 x2 x3 x4 b3;have hown:w5.ownsRow w.heap.size 3 1 u7 ts.length (iv ts):=by rw [HTL.out];exact HTS5.out
   have HOW:=Hd hown;clear hown;go_wp2_with (refine gX rfl (.tmp 27) (.tmp 29) rfl w.heap.size u7 ts (by rfl) (gV HOW.out ((Only.refl [] w5).alloc (.cells #[.int .i64 t] 3))) w5.heap.size (by rfl) t (ab 0 (ag w5 (.cells #[.int .i64 t] 3))) (by rw [HTL.out];omega) (by rw [show (w5.alloc (.cells #[.int .i64 t] 3)).heap.size=w5.heap.size+1 from Array.size_push _];omega) ?_;intro g7 cap7 w7 h7 o7;have hbx7:=iZ (gV HOW.out ((Only.refl [] w5).alloc (.cells #[.int .i64 t] 3))) o7 (aq (.cells #[.int .i64 t] 3) HBX5.out) (by decide);have H7:=Hd (And.intro hbx7 (And.intro h7 o7));have b0:w7.cell? ⟨gb,0,none⟩=some (.int .i64 k):=ab 0 hbx7;have b1:w7.cell? ⟨gb,1,none⟩=some (.int .i64 nn):=ab 1 hbx7;have b2:w7.cell? ⟨gb,2,none⟩=some (.string sn):=ab 2 hbx7;have b3:w7.cell? ⟨gb,3,none⟩=some (.slice (some ⟨gr,0,none⟩) n cap):=ab 3 hbx7;have b4:w7.cell? ⟨gb,4,none⟩=some (.int .i64 p):=ab 4 hbx7;clear hbx7 h7 o7)
   obtain ⟨hbx7,h7,o7⟩:=H7.out;have hoA5:Only [] w5 (w5.alloc (.cells #[.int .i64 t] 3)):=(Only.refl [] w5).alloc _;have hrow5:=gV HOW.out hoA5;have hk7:=(HK5.out.quiet hoA5).row_int hrow5 o7;have he7:=(HE5.out.kept hoA5 (by simp)).row_int hrow5 o7;have hlo:lo≤w.heap.size:=Nat.le_of_lt (Nat.lt_of_le_of_lt HK.out.lo_le HK.out.g_lt);have hge:∀ q∈u7.ownBlock.toList,w.heap.size≤q:=fun q hq=>(World.ownsRow.lt HOW.out q (by simpa using hq)).1;have hx7:=(HX5.out.quiet hoA5).kept o7 (fun q hq hb=>by have:=hge q hq;have:=HB.out q hb;omega) (fun _ h=>h);have ht7:=(HT5.out.quiet hoA5).own o7 hge;have hlt7:(ts++[t]).length=j+1:=by rw [List.length_append,HTL.out];rfl
   rw [hlt7] at h7;rw [HTL.out] at h7⊢;obtain ⟨x,hx0⟩:∃ x,(ts++[t])[0]?=some x:=⟨_,List.getElem?_eq_getElem (by omega)⟩
   have K2:=tB w7 k nn p nm (some ⟨gr,0,none⟩) n cap j (ts++[t]) x hx0 g7 (j+1) cap7 (xq h7 hx0) (by omega);rw [← HSN.out] at K2;obtain ⟨Wt,hWt⟩:∃ W,W=dU k nm j (ts++[t]):=⟨_,rfl⟩
   have hAJ:=HAJ.out;rw [← hWt] at hAJ K2;have HK7:=Hd hk7;have HE7:=Hd he7;have HX7:=Hd hx7;have HT7:=Hd ht7;have HTS7:=Hd h7;have HBX7:=Hd hbx7;have HTL7:=Hd hlt7;have HAJ2:=Hd hAJ;clear hbx7 h7 o7 hoA5 hrow5 hk7 he7 hlo hge hx7 ht7 hlt7 hx0 hWt hAJ H7 HK5 HE5 HX5 HT5 HTS5 HBX5 HOW HAJ HTS HKj HTj HEj HXj HBj b0 b1 b2 b4 hsz5;(go_wp2_with fail);refine K2.mono ?_;rintro en w8 ⟨rfl,o8⟩;replace HK7:=Hd (HK7.out.quiet o8);replace HE7:=Hd (HE7.out.kept o8 (by simp));replace HX7:=Hd (HX7.out.quiet o8);replace HT7:=Hd (HT7.out.quiet o8);replace HTS7:=Hd (gV HTS7.out o8);replace HBX7:=Hd (o8.heap HBX7.out (by simp));clear K2 o8 b3;have b3:w8.cell? ⟨gb,3,none⟩=some (.slice (some ⟨gr,0,none⟩) n cap):=ab 3 HBX7.out;have hfin:∀ (wz:World) (vz:Value) (rz:RS),A=bC rz k nm (xs.drop (j+1)) env (ts++[t])→RK wz lo g vz rz→RT w8 wz g v5 vz→True:=fun _ _ _ _ _ _=>trivial
   by_cases hW0:Wt=0
   ·subst hW0;have hA2:A=bC r2 k nm (xs.drop (j+1)) env (ts++[t]):=by have:=HAJ2.out;simpa using this
    have HA2:=Hd hA2;clear hA2 hfin;(go_wp2_with fail);go_roundw
    case rel=>exact ⟨j+1,ts++[t],v5,r2,by omega,by go_num,HTL7,HTS7,HK7,HT7,HA2,HBX7,HE7,HX7⟩
    case measure=>simp [intOf];omega
   ·have hW0':(Wt != 0)=true:=by simpa using hW0
    by_cases htW:t=Wt
    ·subst htW;have hA2:A=bC r2 k nm (xs.drop (j+1)) env (ts++[t]):=by have:=HAJ2.out;simpa using this
     have HA2:=Hd hA2;clear hA2 hfin hW0;(go_wp2_with fail);go_roundw
     case rel=>exact ⟨j+1,ts++[t],v5,r2,by omega,by go_num,HTL7,HTS7,HK7,HT7,HA2,HBX7,HE7,HX7⟩
     case measure=>simp [intOf];omega
    ·have htW':(t != Wt)=true:=by simpa using htW
     have hA2:A=bC (r2.fail 10 p') k nm (xs.drop (j+1)) env (ts++[t]):=by have:=HAJ2.out;simpa [hW0,htW] using this
     have HA2:=Hd hA2;have z4:=HPX.out w8 HX7.out;clear hA2 hfin hW0 htW;(go_wp2_with fail);refine (cF HK7.out 10 p').mono ?_;rintro en w9 ⟨rfl,hk9,ht9⟩;have hbx9:=ht9.heap HK7.out HBX7.out (by decide) (by decide);have hts9:=row_rt HTS7.out HK7.out ht9;have hkn9:=HE7.out.rt HK7.out ht9;have hxs9:=HX7.out.kept ht9.only (fun q hq hb=>HK7.out.below q hq (HB.out q hb)) (fun _ h=>h);have HK9:=Hd hk9;have HT9:=Hd (HT7.out.trans ht9);have HBX9:=Hd hbx9;have HTS9:=Hd hts9;have HE9:=Hd hkn9;have HX9:=Hd hxs9;clear hk9 ht9 hbx9 hts9 hkn9 hxs9 b3 z4;(go_wp2_with fail);go_roundw
     case rel=>exact ⟨j+1,ts++[t],v5,r2.fail 10 p',by omega,by go_num,HTL7,HTS9,HK9,HT9,HA2,HBX9,HE9,HX9⟩
     case measure=>simp [intOf];omega
  ·obtain rfl:j=n:=by omega
   have hge:¬ (j:Int) < (j:Int):=by omega
   have hA2:A=rj:=by rw [HAj.out,HN.out,List.drop_length];unfold bC;rfl
   have hRR:R=eC rj k nm p env:=by rw [HR.out,← HA.out,hA2]
   have HRR:=Hd hRR;have b0:wr.cell? ⟨gb,0,none⟩=some (.int .i64 k):=ab 0 HBj.out;have b2:wr.cell? ⟨gb,2,none⟩=some (.string sn):=ab 2 HBj.out;have b3:wr.cell? ⟨gb,3,none⟩=some (.slice a j cap):=ab 3 HBj.out;have b4:wr.cell? ⟨gb,4,none⟩=some (.int .i64 p):=ab 4 HBj.out;have hd:sn.data.toList=nm:=by rw [HSN.out];simp [ai]
   clear hA2 hRR hlt HTS HAj HXj HTL
   by_cases h2:k=2
   ·subst h2
    by_cases ht:nm=[116,114,117,101]∨nm=[102,97,108,115,101]
    ·have hR2:R=(2,rj):=by rw [HRR.out];unfold eC;rw [if_pos rfl,if_pos ht]
     have HR2:=Hd hR2;clear hR2;rcases ht with ht | ht<;>
     ·obtain rfl:=aJ.2 (hd.trans ht);clear hd ht;(go_wp2_with fail);go_ret;exact ⟨by rw [HR2.out];rfl,vj,by rw [HR2.out];exact HKj.out,HTj.out⟩
    ·have n1:(sn.toList == [116,114,117,101])=false:=bw (fun e=>ht (.inl (hd.symm.trans e)));have n2:(sn.toList == [102,97,108,115,101])=false:=bw (fun e=>ht (.inr (hd.symm.trans e)));have HRs:=Hd (fun t (h:bj env nm=some t)=>HRR.out.trans (tE ht h));have HRn:=Hd (fun (h:bj env nm=none)=>HRR.out.trans (tF ht h));obtain ⟨ea,ec,rfl⟩:=HEj.out.shape;obtain ⟨m,hm⟩:∃ m,m=env.length:=⟨_,rfl⟩
     have HM:=Hd hm;obtain ⟨wo,hwo⟩:∃ wo:World,wo=wr:=⟨_,rfl⟩
     have HKo:=Hd (show RK wo lo g vj rj by rw [hwo];exact HKj.out);have HTo:=Hd (show RT w wo g v vj by rw [hwo];exact HTj.out);have HEo:=Hd (show OKn wo (.slice ea env.length ec) env by rw [hwo];exact HEj.out);have HBo:=Hd (show wo.heap[gb]?=some (.cells #[.int .i64 2,.int .i64 nn,.string sn,.slice a j cap,.int .i64 p] 72 (0,0)) by rw [hwo];exact HBj.out);have HWO:=Hd hwo;rw [← hm] at HEo henv⊢;clear ht hd hm hwo HKj HTj HEj HBj HRR HR HA HX;(go_upto_region 15 with (fail));clear b0 b2 b3 b4
     go_loopw [11] (fun ix wz=>∃ q:Nat,q≤m∧ix=.int .i64 (q:Int)∧Hid (bj env nm=bj (env.drop q) nm)∧Hid (Only [] wo wz)) (fun ix _=>m - (intOf ix).toNat)
     case atStart=>exact ⟨0,Nat.zero_le _,rfl,Hd (by rw [List.drop_zero]),Hd (by rw [HWO.out];exact Only.refl _ _)⟩
     case round=>
      obtain ⟨q,hqm,rfl,HL,HOz⟩:=hrel;have hb:=HOz.out.heap HBo.out (by simp);have b2:wr.cell? ⟨gb,2,none⟩=some (.string sn):=ab 2 hb;have b4:wr.cell? ⟨gb,4,none⟩=some (.int .i64 p):=ab 4 hb;have he:=HEo.out.kept HOz.out (by simp);clear hb
      by_cases hq:q < m
      ·have hq':(q:Int) < (m:Int):=by omega
       have q0:(0:Int)≤(q:Int):=by omega
       obtain ⟨y,hy⟩:∃ y,env[q]?=some y:=⟨_,List.getElem?_eq_getElem (by rw [← HM.out];exact hq)⟩
       obtain ⟨ge,ce,e1,y0,y1⟩:=he.at_ hy;injection e1 with e1 _ _
       subst e1;obtain ⟨Y,hY⟩:∃ Y,Y=ai y.1:=⟨_,rfl⟩
       rw [← hY] at y0;have heq:=xm hY HSN.out;have hl:=tD (nm:=nm) hy;obtain ⟨yt,hyt⟩:∃ yt,yt=y.2:=⟨_,rfl⟩
       rw [← hyt] at y1 hl
       by_cases hye:y.1=nm
       ·have heq':(Y.toList == sn.toList)=true:=by rw [heq];simpa using hye
        have hR2:R=(yt,rj):=HRs.out yt (by rw [HL.out,hl,if_pos hye]);have HR2:=Hd hR2;clear heq hl hy hye hR2 hY hyt he;go_wp2_with fail
        go_quiet (fail)
        have od:Only [] wr (wr.drewN nq):=bt (Only.refl [] wr);have y1':=ae od y1 (by simp);have HO2:=Hd (HOz.out.trans od (by simp));clear y0 y1 b2 b4 od;generalize wr.drewN nq=wd at y1' HO2⊢;(go_wp2_with fail);go_ret;exact ⟨by rw [HR2.out];rfl,vj,by rw [HR2.out];exact HKo.out.quiet HO2.out,HTo.out.quiet HO2.out⟩
       ·have heq':(Y.toList == sn.toList)=false:=by rw [heq];simpa using hye
        have HL2:=Hd (show bj env nm=bj (env.drop (q+1)) nm by rw [HL.out,hl,if_neg hye]);clear heq hl hy hye hY hyt he;go_wp2_with fail
        go_quiet (fail)
        have HO2:=Hd (HOz.out.trans (bt (n:=nq) (Only.refl [] wr)) (by simp));clear y0 y1 b2 b4;generalize wr.drewN nq=wd at HO2⊢;(go_wp2_with fail);go_roundw
        case rel=>exact ⟨q+1,by omega,by go_num,HL2,HO2⟩
        case measure=>simp [intOf];omega
      ·obtain rfl:q=m:=by omega
       have hqq:¬ (q:Int) < (q:Int):=by omega
       have hn:bj env nm=none:=by rw [HL.out,HM.out,List.drop_length];rfl
       have HR2:=Hd (HRn.out hn);have hk:=HKo.out.quiet HOz.out;have HK2:=Hd hk;clear hn he hk;(go_wp2_with fail);refine (cF HK2.out 9 p).mono ?_;rintro en w9 ⟨rfl,hk9,ht9⟩;have HK9:=Hd hk9;have HT9:=Hd ((HTo.out.quiet HOz.out).trans ht9);clear hk9 ht9;(go_wp2_with fail);go_ret;exact ⟨by rw [HR2.out];rfl,vj,by rw [HR2.out];exact HK9.out,HT9.out⟩
   ·have h2':(k == 2)=false:=by simpa using h2
    have hne:¬ (k=2):=h2
    by_cases h4:k=4
    ·subst h4;have HR2:=Hd (show R=(2,rj) by rw [HRR.out];unfold eC;rw [if_neg (by decide),if_pos rfl]);clear hd;(go_wp2_with fail);go_ret;exact ⟨by rw [HR2.out];rfl,vj,by rw [HR2.out];exact HKj.out,HTj.out⟩
    ·have h4':(k == 4)=false:=by simpa using h4
     by_cases h6:k=6
     ·subst h6;have hR2:R=(if ar5 nm then 1 else 2,rj):=by rw [HRR.out];unfold eC;rw [if_neg (by decide),if_neg (by decide),if_pos rfl]
      by_cases har:ar5 nm
      ·rw [if_pos har] at hR2;have HR2:=Hd hR2;clear hR2;rcases har with h | h | h | h | h<;>
       ·obtain rfl:=aJ.2 (hd.trans h);clear hd h h2 h4 h2' h4' hne;(go_wp2_with fail);go_ret;exact ⟨by rw [HR2.out];rfl,vj,by rw [HR2.out];exact HKj.out,HTj.out⟩
      ·rw [if_neg har] at hR2;have HR2:=Hd hR2;have n1:(sn.toList == [43])=false:=bw (fun e=>har (.inl (hd.symm.trans e)));have n2:(sn.toList == [45])=false:=bw (fun e=>har (.inr (.inl (hd.symm.trans e))));have n3:(sn.toList == [42])=false:=bw (fun e=>har (.inr (.inr (.inl (hd.symm.trans e)))));have n4:(sn.toList == [47])=false:=bw (fun e=>har (.inr (.inr (.inr (.inl (hd.symm.trans e))))));have n5:(sn.toList == [37])=false:=bw (fun e=>har (.inr (.inr (.inr (.inr (hd.symm.trans e))))));clear hR2 hd har h2 h4 h2' h4' hne;(go_wp2_with fail);go_ret;exact ⟨by rw [HR2.out];rfl,vj,by rw [HR2.out];exact HKj.out,HTj.out⟩
     ·have h6':(k == 6)=false:=by simpa using h6
      have HR2:=Hd (show R=(1,rj) by rw [HRR.out];unfold eC;rw [if_neg h2,if_neg h4,if_neg h6]);clear hd h2 h4 h6 hne;(go_wp2_with fail);go_ret;exact ⟨by rw [HR2.out];rfl,vj,by rw [HR2.out];exact HKj.out,HTj.out⟩
theorem om (N:Nat) (hN:N≤1000000):xr N:=by
 induction N with
 | zero=>exact fun e he=>by cases e;rw [cy] at he;omega
 | succ N ih=>exact tG N (by omega) (ih (by omega))
section
variable {w:World} {lo g:Nat} {v:Value} {r:RS} {B:Nat→Prop} {env:Env} {ve:Value}
theorem eT (hr:RK w lo g v r) {e:E} {cs:List Value} (he:EV w B e cs) (hs:aw e≤1000000) (hB:∀ k,B k→k < lo) (hve:OKn w ve env) (henv:env.length≤1000000) (want:Int) :
  Calls Tryz.prog 59 #[.pointer (some ⟨g,0,none⟩),.agg cs.toArray,.int .i64 want,ve] w fun en w'=>en=.returned (.tuple #[])∧∃ v',RK w' lo g v' (bp r e want env)∧RT w w' g v v':=by
 have K0:=om 1000000 (Nat.le_refl _) e hs;obtain ⟨p,hp⟩:∃ p,p=e.pos:=⟨_,rfl⟩
 obtain ⟨c0,c1,c2,a,l,c,hcs⟩:∃ c0 c1 c2 a l c,cs=[.int .i64 c0,.int .i64 c1,.string c2,.slice a l c,.int .i64 p]:=by
  obtain ⟨k,nn,nm,xs,q⟩:=e;unfold EV at he;obtain ⟨a,cap,rfl,_,_⟩:=he;exact ⟨_,_,_,_,_,_,by rw [hp];rfl⟩
 subst hcs;obtain ⟨t,ht⟩:∃ t,t=(aR r e env).1:=⟨_,rfl⟩
 obtain ⟨r2,hr2⟩:∃ r2,r2=(aR r e env).2:=⟨_,rfl⟩
 have oA:=(Only.refl [] w).alloc (.cells #[.int .i64 c0,.int .i64 c1,.string c2,.slice a l c,.int .i64 p] 72);have hb:=ag w (.cells #[.int .i64 c0,.int .i64 c1,.string c2,.slice a l c,.int .i64 p] 72);have hnd:bp r e want env=if t≠want then r2.fail 10 p else r2:=by rw [ht,hr2,hp];rfl
 obtain ⟨RR,hRR⟩:∃ x,x=bp r e want env:=⟨_,rfl⟩
 rw [← hRR];have HND:=Hd (hRR.trans hnd);have HR:=Hd hr;have HE:=Hd he;have HB:=Hd hB;have HVE:=Hd hve;have HOA:=Hd oA;have HBX:=Hd hb;have HT:=Hd (And.intro ht hr2);have HK0:=Hd K0;clear hr he hs hB hve hp oA hb hnd hRR ht hr2 K0
 go_enter Tryz.func59,Tryz.ntmps59
 go_upto_region 1 with (fail)
 have oA:=HOA.out;have hb:=HBX.out;generalize w.alloc (.cells #[.int .i64 c0,.int .i64 c1,.string c2,.slice a l c,.int .i64 p] 72)=w1 at oA hb⊢;have K1:=HK0.out w1 lo g v r _ B env ve (HR.out.quiet oA) (HE.out.kept oA (by simp) (fun _ h=>h)) HB.out (HVE.out.kept oA (by simp)) henv;rw [← HT.out.1,← HT.out.2] at K1;have b0:w1.cell? ⟨w.heap.size,0,none⟩=some (.int .i64 c0):=ab 0 hb;have b1:w1.cell? ⟨w.heap.size,1,none⟩=some (.int .i64 c1):=ab 1 hb;have b2:w1.cell? ⟨w.heap.size,2,none⟩=some (.string c2):=ab 2 hb;have b3:w1.cell? ⟨w.heap.size,3,none⟩=some (.slice a l c):=ab 3 hb;have b4:w1.cell? ⟨w.heap.size,4,none⟩=some (.int .i64 p):=ab 4 hb;have HB1:=Hd hb;have HO1:=Hd oA;clear hb oA HBX HOA;go_wp2_with fail
 refine K1.mono ?_;rintro en w5 ⟨rfl,v5,hk5,ht5⟩;have hb5:=ht5.heap (HR.out.quiet HO1.out) HB1.out (by decide) (by decide);have b4':w5.cell? ⟨w.heap.size,4,none⟩=some (.int .i64 p):=ab 4 hb5;have HK5:=Hd hk5;have HT5:=Hd ((RT.of_quiet HO1.out g v).trans ht5);clear hk5 ht5 hb5 K1 b0 b1 b2 b3 b4
 by_cases htw:t=want
 ·have h':(t != want)=false:=by simpa using htw
  have hx:RR=r2:=by rw [HND.out,if_neg (fun n=>n htw)]
  have HX:=Hd hx;clear htw hx;go_wp2_with fail
  go_end0;exact ⟨rfl,v5,by rw [HX.out];exact HK5.out,HT5.out⟩
 ·have h':(t != want)=true:=by simpa using htw
  have hx:RR=r2.fail 10 p:=by rw [HND.out,if_pos htw]
  have HX:=Hd hx;clear htw hx;go_wp2_with fail
  refine (cF HK5.out 10 p).mono ?_;rintro en w6 ⟨rfl,hk6,ht6⟩;have HK6:=Hd hk6;have HT6:=Hd (HT5.out.trans ht6);clear hk6 ht6;go_wp2_with fail
  go_end0;exact ⟨rfl,v5,by rw [HX.out];exact HK6.out,HT6.out⟩
end
def CSzP (N:Nat):Prop:=∀ (e:E),aw e≤N→∀ (w:World) (cs:List Value) (B:Nat→Prop),EV w B e cs→Calls Tryz.prog 60 #[.agg cs.toArray] w fun en w'=>en=.returned (.int .i64 (aw e:Nat))∧Only [] w w'
theorem tH (N:Nat) (hNN:N≤1000000) (IS:CSzP N):CSzP (N+1):=by
 intro e he w cs B hv;obtain ⟨k,nn,nm,xs,p⟩:=e;rw [cy] at he;unfold EV at hv;obtain ⟨a,cap,rfl,hc,hx⟩:=hv;have hxs:=EsV.of_parts hc hx;obtain ⟨n,hn⟩:∃ n,n=xs.length:=⟨_,rfl⟩
 have hlen:=dF xs;rw [← hn] at hxs hlen⊢;obtain ⟨sn,hsn⟩:∃ sn,sn=ai nm:=⟨_,rfl⟩
 rw [← hsn];obtain ⟨R,hR⟩:∃ R,R=aw (.mk k nn nm xs p):=⟨_,rfl⟩
 rw [← hR];rw [cy] at hR;have HX:=Hd hxs;have HN:=Hd hn;have HR:=Hd hR;have hnb:n≤1000000:=by omega
 clear hx hc hxs hn hsn hR
 go_enter Tryz.func60,Tryz.ntmps60
 go_upto_region 3 with (fail)
 obtain ⟨w1,q9,oA,hb,-⟩:=nb w (.cells #[.int .i64 k,.int .i64 nn,.string sn,.slice a n cap,.int .i64 p] 72);rw [← q9];clear q9;have HBX:=Hd hb;have HOA:=Hd oA;obtain ⟨gb,hgb⟩:∃ gb,gb=w.heap.size:=⟨_,rfl⟩
 rw [← hgb] at HBX⊢;clear oA hb hgb
 go_loopw [3,4] (fun st ix wr=>∃ (j T:Nat),j≤n∧ix=.int .i64 (j:Int)∧st=.int .i64 (T:Int)∧Hid (T=1+ak (xs.take j))∧Hid (Only [] w wr)∧Hid (wr.heap[gb]?=some (.cells #[.int .i64 k,.int .i64 nn,.string sn,.slice a n cap,.int .i64 p] 72 (0,0)))) (fun _ ix _=>n - (intOf ix).toNat)
 case atStart=>exact ⟨0,1,Nat.zero_le _,rfl,rfl,Hd (by simp [ak]),HOA,HBX⟩
 case round=>
  obtain ⟨j,T,hjn,rfl,rfl,HT,HO,HB⟩:=hrel;have b3:wr.cell? ⟨gb,3,none⟩=some (.slice a n cap):=ab 3 HB.out
  by_cases hlt:j < n
  ·have hlt':(j:Int) < (n:Int):=by omega
   have j0:(0:Int)≤(j:Int):=by omega
   obtain ⟨-,gr,k',nn',nm',ys,p',a',c',rfl,he',x0,x1,x2,x3,x4,hv'⟩:=(HX.out.quiet HO.out).elem hlt;have hT1:=bu he';have hT2:=bQ he';have hT3:=aV xs (j+1);obtain ⟨e',hee⟩:∃ e',e'=E.mk k' nn' nm' ys p':=⟨_,rfl⟩
   obtain ⟨sn',hsn'⟩:∃ s,s=ai nm':=⟨_,rfl⟩
   obtain ⟨L,hL⟩:∃ L,L=ys.length:=⟨_,rfl⟩
   have hev:EV wr B e' [.int .i64 k',.int .i64 nn',.string sn',.slice a' L c',.int .i64 p']:=by rw [hee,hsn',hL];exact EV.mk' hv'
   rw [← hee] at hT1 hT2;rw [← hsn'] at x2;rw [← hL] at x3;have K1:=IS e' (by omega) wr _ B hev;obtain ⟨Y,hY⟩:∃ Y,Y=aw e':=⟨_,rfl⟩
   rw [← hY] at K1 hT2;have hTT:1+ak (xs.take (j+1))=T+Y:=by rw [HT.out,hT2];omega
   have hb1:T+Y≤1000001:=by omega
   have HTT:=Hd hTT;clear hT1 hT2 hT3 hee hsn' hL hev hY hTT he' hv';(go_wp2_with fail);refine K1.mono ?_;rintro en w6 ⟨rfl,ho6⟩;have HO6:=Hd (HO.out.trans ho6 (by simp));have HB6:=Hd (ho6.heap HB.out (by simp));clear ho6 K1 x0 x1 x2 x3 x4 b3;(go_wp2_with fail);go_roundw
   case rel=>exact ⟨j+1,T+Y,by omega,by go_num,by simp,Hd HTT.out.symm,HO6,HB6⟩
   case measure=>simp [intOf];omega
  ·obtain rfl:j=n:=by omega
   have hge:¬ (j:Int) < (j:Int):=by omega
   have hT:T=R:=by rw [HT.out,HN.out,List.take_length,HR.out]
   have HTT:=Hd hT;clear hT;(go_wp2_with fail);go_ret;rw [← HTT.out];exact ⟨rfl,HO.out⟩
theorem kh (N:Nat) (hN:N≤1000000):CSzP N:=by
 induction N with
 | zero=>exact fun e he=>by cases e;rw [cy] at he;omega
 | succ N ih=>exact tH N (by omega) (ih (by omega))
end Go.Proofs.YtheanmadognhbaaGreatDoor
