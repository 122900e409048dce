import Derived.Test.YtcebchffcmpfeaaGreatUbt
import Derived.Test.YtcebchffcmpfeaaGreatHft
namespace Go.Proofs.YtcebchffcmpfeaaGreat
set_option linter.unusedVariables false
set_option linter.unusedSimpArgs false
set_option maxRecDepth 100000
set_option maxHeartbeats 16000000
open Go.RowKit Go.Maps
theorem xF:∀ (l:List Sec) (nm:Sec) (i:Nat),nm∈l→idxF l nm i=i+l.idxOf nm
 | [],_,_,h=>by simp at h
 | x :: xs,nm,i,h=>by
  unfold idxF
  by_cases e:x=nm
  ·rw [if_pos e,e,List.idxOf_cons_self];omega
  ·rw [if_neg e,List.idxOf_cons,xF xs nm (i+1) (by
    rcases List.mem_cons.1 h with h | h
    ·exact absurd h.symm e
    ·exact h)]
   have:(x == nm)=false:=by simpa using e
   rw [this];simp;omega
theorem xG {l:List Sec} {nm:Sec} (h:nm∈l):xX l nm=l.idxOf nm:=by
 unfold xX;rw [xF l nm 0 h,Nat.zero_add]
theorem qz {l:List Sec} {nm:Sec} (h:nm∈l):(idx l nm).getD 0=(xX l nm:Int):=by
 unfold idx;rw [if_pos h,xG h];rfl
theorem idx_nil:idx []=bJ []:=by
 funext z;unfold idx;rw [if_neg (by simp)];rfl
def dj (S:List Dc):List Sec:=(S.filter (fun x=>decide (x.2.2=7))).map (·.1)
def bD (S:List Dc):List Sec:=(S.filter (fun x=>decide (x.2.2=8))).map (·.1)
def cmS (L:List Sec) (S:List Dc):Nms:=fun z=>if z∈dj S then idx L z else if z∈bD S then some ((L.length+(bD S).idxOf z:Nat):Int) else none
theorem fJ (S:List Dc) (x:Dc):dj (S++[x])=if x.2.2=7 then dj S++[x.1] else dj S:=by
 unfold dj;rw [List.filter_append,List.map_append]
 by_cases h:x.2.2=7<;>simp [h]
theorem ch (S:List Dc) (x:Dc):bD (S++[x])=if x.2.2=8 then bD S++[x.1] else bD S:=by
 unfold bD;rw [List.filter_append,List.map_append]
 by_cases h:x.2.2=8<;>simp [h]
theorem lA {S:List Dc} {z:Sec} (h:z∈dj S):z∈S.map (·.1):=by
 obtain ⟨y,hy,rfl⟩:=List.mem_map.1 h;exact List.mem_map.2 ⟨y,(List.mem_filter.1 hy).1,rfl⟩
theorem tP {S:List Dc} {z:Sec} (h:z∈bD S):z∈S.map (·.1):=by
 obtain ⟨y,hy,rfl⟩:=List.mem_map.1 h;exact List.mem_map.2 ⟨y,(List.mem_filter.1 hy).1,rfl⟩
theorem cmS_nil (L:List Sec):cmS L []=bJ []:=by
 funext z;unfold cmS dj bD;simp;rfl
theorem cmS_none {L:List Sec} {S:List Dc} {x:Dc} (h7:x.2.2≠7) (h8:x.2.2≠8):cmS L (S++[x])=cmS L S:=by
 unfold cmS;rw [fJ,ch,if_neg h7,if_neg h8]
theorem xH {L:List Sec} {S:List Dc} {x:Dc} (h7:x.2.2=7) (hx:x.1∈L):cmS L (S++[x])=dk (cmS L S) x.1 ((idx L x.1).getD 0):=by
 have e7:dj (S++[x])=dj S++[x.1]:=by rw [fJ,if_pos h7]
 have e8:bD (S++[x])=bD S:=by rw [ch,if_neg (by rw [h7];decide)]
 funext z;unfold cmS dk;dsimp only;rw [e7,e8]
 by_cases e:z=x.1
 ·subst e;rw [if_pos (by simp),if_pos rfl];unfold idx;rw [if_pos hx];rfl
 ·rw [if_neg e];simp only [List.mem_append,List.mem_singleton,e,or_false]
theorem xI {L:List Sec} {S:List Dc} {x:Dc} (h8:x.2.2=8) (hn:x.1∉S.map (·.1)):cmS L (S++[x])=dk (cmS L S) x.1 ((L.length+(bD S).length:Nat):Int):=by
 have e7:dj (S++[x])=dj S:=by rw [fJ,if_neg (by rw [h8];decide)]
 have e8:bD (S++[x])=bD S++[x.1]:=by rw [ch,if_pos h8]
 funext z;unfold cmS dk;dsimp only;rw [e7,e8]
 by_cases e:z=x.1
 ·subst e;have h7:x.1∉dj S:=fun h=>hn (lA h);have h8':x.1∉bD S:=fun h=>hn (tP h);rw [if_neg h7,if_pos (by simp),if_pos rfl,List.idxOf_append,if_neg h8'];simp
 ·rw [if_neg e]
  by_cases h7:z∈dj S
  ·rw [if_pos h7,if_pos h7]
  ·rw [if_neg h7,if_neg h7]
   by_cases hz:z∈bD S
   ·rw [if_pos (by simp [hz]),if_pos hz,List.idxOf_append,if_pos hz]
   ·rw [if_neg (by simp [hz,e]),if_neg hz]
theorem xJ {S:List Dc} (hnd:(S.map (·.1)).Nodup) {z:Sec} (h:z∈bD S):z∉dj S:=fun h7=>by
 obtain ⟨y,hy,e⟩:=List.mem_map.1 h;obtain ⟨y',hy',e'⟩:=List.mem_map.1 h7;obtain ⟨m1,k1⟩:=List.mem_filter.1 hy;obtain ⟨m2,k2⟩:=List.mem_filter.1 hy';simp only [decide_eq_true_eq] at k1 k2;have:y=y':=by
  clear h h7 hy hy'
  induction S with
  | nil=>simp at m1
  | cons a S ih=>
   rw [List.map_cons,List.nodup_cons] at hnd;rcases List.mem_cons.1 m1 with r1 | r1<;>rcases List.mem_cons.1 m2 with r2 | r2
   ·rw [r1,r2]
   ·exact absurd (List.mem_map.2 ⟨y',r2,by rw [← r1];exact e'.trans e.symm⟩) hnd.1
   ·exact absurd (List.mem_map.2 ⟨y,r1,by rw [← r2];exact e.trans e'.symm⟩) hnd.1
   ·exact ih hnd.2 r1 r2
 rw [this] at k1;omega
theorem named_of {d:Df} (hok:OkN (eU d)) {L:List Sec} (hL:L=eU d) {S:List Dc} (hS:S=iS (aA d.body)) :
  Named d ⟨d.params.length,((L.length+(bD S).length:Nat):Int),[],[],idx L,cmS L S⟩:=by
 subst hL;subst hS;have hnd:((iS (aA d.body)).map (·.1)).Nodup:=(List.nodup_append.1 hok.1).2.1;refine ⟨rfl,rfl,rfl,rfl,fun nm hnm=>qz hnm,fun nm hnm=>?_,fun nm hnm=>?_⟩
 ·show (cmS (eU d) (iS (aA d.body)) nm).getD 0=(xX (eU d) nm:Int)
  unfold cmS;rw [if_pos (show nm∈dj (iS (aA d.body)) from hnm)];exact qz (List.mem_append.2 (.inr (lA hnm)))
 ·show (cmS (eU d) (iS (aA d.body)) nm).getD 0=(((eU d).length+xX (io 8 d) nm:Nat):Int)
  unfold cmS;rw [if_neg (xJ hnd hnm),if_pos (show nm∈bD (iS (aA d.body)) from hnm)];rw [xG hnm];rfl
mutual
theorem qA:∀ x:St,wS x→∀ y∈cy x,y.1.length≤65536
 | .mk k nm xs n bd els p,hw,y,hy=>by
  unfold wS at hw;obtain ⟨-,hnm,-,hb,he⟩:=hw;unfold cy at hy;rw [List.mem_append,List.mem_append] at hy;rcases hy with (hy | hy) | hy
  ·split at hy
   ·rw [List.mem_singleton.1 hy];exact hnm
   ·simp at hy
  ·exact d6 bd hb y hy
  ·exact d6 els he y hy
theorem d6:∀ xs:List St,wB xs→∀ y∈aA xs,y.1.length≤65536
 | [],_,y,hy=>by rw [cO] at hy;simp at hy
 | x :: xs,hw,y,hy=>by
  unfold wB at hw;rw [cP,List.mem_append] at hy;rcases hy with hy | hy
  ·exact qA x hw.1 y hy
  ·exact d6 xs hw.2 y hy
end
structure NS (w:World) (g:Nat) (s:MS) (v u:Value) (bl bc k:Nat):Prop where
 row:w.heap[g]?=some (.cells (mkA s v u bl bc) 92 (0,0))
 lmap:∃ n,n≤k∧NMap w bl 3 n n s.lm
 cmap:∃ n,n≤k∧NMap w bc 3 n n s.cm
section
variable {w w':World} {g:Nat} {s:MS} {v u:Value} {bl bc k:Nat}
theorem NS.quiet (h:NS w g s v u bl bc k) (o:Only [] w w'):NS w' g s v u bl bc k:=by
 obtain ⟨n1,a1,m1⟩:=h.lmap;obtain ⟨n2,a2,m2⟩:=h.cmap;exact ⟨o.heap h.row (by simp),⟨n1,a1,m1.kept o (by simp)⟩,⟨n2,a2,m2.kept o (by simp)⟩⟩
theorem NS.lg (h:NS w g s v u bl bc k):bl≠g:=by obtain ⟨n,_,h1⟩:=h.lmap;exact h1.ne h.row
theorem NS.cg (h:NS w g s v u bl bc k):bc≠g:=by obtain ⟨n,_,h1⟩:=h.cmap;exact h1.ne h.row
theorem NS.cell (h:NS w g s v u bl bc k) (i:Nat) (x:Value) (s':MS) (hi:(mkA s v u bl bc).setIfInBounds i x=mkA s' v u bl bc) (hl:s'.lm=s.lm) (hc:s'.cm=s.cm):NS (w.setCell ⟨g,i,none⟩ x) g s' v u bl bc k∧Only [g] w (w.setCell ⟨g,i,none⟩ x):=by
 have o:Only [g] w (w.setCell ⟨g,i,none⟩ x):=oc;obtain ⟨n1,a1,m1⟩:=h.lmap;obtain ⟨n2,a2,m2⟩:=h.cmap;refine ⟨⟨by rw [← hi];exact af x h.row,⟨n1,a1,?_⟩,⟨n2,a2,?_⟩⟩,o⟩
 ·rw [hl];exact m1.kept o (by simpa using h.lg)
 ·rw [hc];exact m2.kept o (by simpa using h.cg)
theorem NS.putL {n:Nat} {nm:Sec} {c:Int} (h:NS w g s v u bl bc k) (hbc:bl≠bc) (hn:n≤k) (hm:NMap w' bl 3 (n+1) (if (s.lm nm).isSome=true then n else n+1) (dk s.lm nm c)) (o:Only [bl] w w'):NS w' g {s with lm:=dk s.lm nm c } v u bl bc (k+1):=by
 obtain ⟨n2,a2,m2⟩:=h.cmap;refine ⟨o.heap h.row (by simpa using h.lg.symm),⟨_,?_,hm.tight⟩,⟨n2,by omega,m2.kept o (by simpa using hbc.symm)⟩⟩;split<;>omega
theorem NS.putC {n:Nat} {nm:Sec} {c:Int} (h:NS w g s v u bl bc k) (hbc:bl≠bc) (hn:n≤k) (hm:NMap w' bc 3 (n+1) (if (s.cm nm).isSome=true then n else n+1) (dk s.cm nm c)) (o:Only [bc] w w'):NS w' g {s with cm:=dk s.cm nm c } v u bl bc (k+1):=by
 obtain ⟨n2,a2,m2⟩:=h.lmap;refine ⟨o.heap h.row (by simpa using h.cg.symm),⟨n2,by omega,m2.kept o (by simpa using hbc)⟩,⟨_,?_,hm.tight⟩⟩;split<;>omega
theorem ku (h:NS w g s v u bl bc k) (L:Int) (hL:s.lo=L) (h0:0≤L) (h1:L≤1000):Calls Tryz.prog 64 #[.pointer (some ⟨g,0,none⟩)] w fun en w'=>en=.returned (.int .i64 L)∧NS w' g {s with lo:=L+1 } v u bl bc k∧Only [g] w w':=by
 have hc:=h.cell 1 (.int .i64 (L+1)) {s with lo:=L+1 } (by simp [mkA]) rfl rfl;have HC:=Hd hc;have c1:w.cell? ⟨g,1,none⟩=some (.int .i64 L):=by rw [← hL];exact ab 1 h.row
 have f1:=ae 1 h.row;have hg:=ak h.row;have e1:IntKind.i64.wrap (L+1)=L+1:=by rw [IntKind.wrap_i64];omega
 have e2:IntKind.i64.wrap L=L:=by rw [IntKind.wrap_i64];omega
 have e3:L+1 - 1=L:=by omega
 clear hc hL h
 go_enter Tryz.func64,Tryz.ntmps64
 go_wp2_with fail
 go_ret;exact ⟨rfl,HC.out.1,HC.out.2⟩
end
def sP (P:Int) (l:List Sec):MS:=⟨P,(l.length:Int),[],[],idx l,bJ []⟩
def sQ (P:Int) (L:List Sec) (S:List Dc):MS:=⟨P,((L.length+(bD S).length:Nat):Int),[],[],idx L,cmS L S⟩
theorem xK {P:Int} {l:List Sec} {nm:Sec} (h:nm∉l):({{sP P l with lo:=(l.length:Int)+1 } with lm:=dk (sP P l).lm nm (l.length:Int) }:MS)=sP P (l++[nm]):=by
 unfold sP;dsimp only;rw [qS h,List.length_append,List.length_singleton];simp
theorem sQ_nil {P:Int} {L:List Sec}:sQ P L []=sP P L:=by
 unfold sQ sP;rw [cmS_nil];simp [bD]
theorem sQ_none {P:Int} {L:List Sec} {S:List Dc} {x:Dc} (h7:x.2.2≠7) (h8:x.2.2≠8):sQ P L (S++[x])=sQ P L S:=by
 unfold sQ;rw [cmS_none h7 h8,ch,if_neg h8]
theorem sQ_seven {P:Int} {L:List Sec} {S:List Dc} {x:Dc} (h7:x.2.2=7) (hx:x.1∈L):({sQ P L S with cm:=dk (sQ P L S).cm x.1 (((sQ P L S).lm x.1).getD 0) }:MS)=sQ P L (S++[x]):=by
 unfold sQ;dsimp only;rw [xH h7 hx,ch,if_neg (by rw [h7];decide)]
theorem sQ_eight {P:Int} {L:List Sec} {S:List Dc} {x:Dc} (h8:x.2.2=8) (hn:x.1∉S.map (·.1)):({{sQ P L S with lo:=(sQ P L S).lo+1 } with cm:=dk (sQ P L S).cm x.1 (sQ P L S).lo }:MS)=sQ P L (S++[x]):=by
 unfold sQ;dsimp only;rw [xI h8 hn,ch,if_pos h8,List.length_append,List.length_singleton];simp;omega
theorem NS.kept {w w':World} {g:Nat} {s:MS} {v u:Value} {bl bc k:Nat} (h:NS w g s v u bl bc k) {S:List Nat} (o:Only S w w') (h1:g∉S) (h2:bl∉S) (h3:bc∉S):NS w' g s v u bl bc k:=by
 obtain ⟨n1,a1,m1⟩:=h.lmap;obtain ⟨n2,a2,m2⟩:=h.cmap;exact ⟨o.heap h.row h1,⟨n1,a1,m1.kept o h2⟩,⟨n2,a2,m2.kept o h3⟩⟩
theorem NS.le {w:World} {g:Nat} {s:MS} {v u:Value} {bl bc k k':Nat} (h:NS w g s v u bl bc k) (hk:k≤k'):NS w g s v u bl bc k':=by
 obtain ⟨n1,a1,m1⟩:=h.lmap;obtain ⟨n2,a2,m2⟩:=h.cmap;exact ⟨h.row,⟨n1,by omega,m1⟩,⟨n2,by omega,m2⟩⟩
theorem MK.mk_ {w w':World} {base g:Nat} {s0 s:MS} {v u:Value} {bl bc k:Nat} (h0:MK w base g s0 v u bl bc) (o:Only [g,bl,bc] w w') (h:NS w' g s v u bl bc k) (hk:k≤60000) (h1:s.ins=s0.ins) (h2:s.lps=s0.lps):MK w' base g s v u bl bc:=by
 obtain ⟨n1,a1,m1⟩:=h.lmap;obtain ⟨n2,a2,m2⟩:=h.cmap;refine ⟨h.row,h0.gb,?_,?_,⟨n1,by omega,m1⟩,⟨n2,by omega,m2⟩⟩
 ·rw [h1];refine h0.ins.kept o fun k hk e=>?_;simp only [List.mem_cons,List.not_mem_nil,or_false] at hk;rcases hk with rfl | rfl | rfl
  ·exact h0.vg e
  ·exact h0.lv e rfl
  ·exact h0.cv e rfl
 ·rw [h2];refine h0.lps.kept o fun k hk e=>?_;simp only [List.mem_cons,List.not_mem_nil,or_false] at hk;rcases hk with rfl | rfl | rfl
  ·exact h0.ug e
  ·exact h0.lu e rfl
  ·exact h0.cu e rfl
theorem qB {l:List Sec} (h:l.Nodup) {j:Nat} {x:Sec} (hx:l[j]?=some x):x∉l.take j:=fun hm=>by
 obtain ⟨h1,h2⟩:=List.getElem?_eq_some_iff.1 hx;have e:l.take j++x :: l.drop (j+1)=l:=by rw [← h2,← List.drop_eq_getElem_cons h1,List.take_append_drop]
 rw [← e] at h;exact (List.nodup_append.1 h).2.2 x hm x (by simp) rfl
theorem xL:NamesC:=by
 intro w base g v u bl bc d cs B hM hl0 hc0 hbl hbc hlc hb hd hB hk hf;have hok:=locN_ok hk.whole hk.plain hf;obtain ⟨S,hS⟩:∃ S,S=iS (aA d.body):=⟨_,rfl⟩
 have hLN:eU d=d.params++S.map (·.1):=by rw [hS];rfl
 have HSN:=Hd (show ∀ y∈S,y.1.length≤65536 from fun y hy=>d6 d.body hk.whole.body y (by rw [hS] at hy;exact (cN _).mem_iff.1 hy));have HND:=Hd (show (d.params++S.map (·.1)).Nodup from by rw [← hLN];exact hok.1);have h16:=hok.2;rw [hLN,List.length_append,List.length_map] at h16;obtain ⟨v1,v2,v3,v4,rfl,hv1,hv2,hv3,hv4⟩:=hd;obtain ⟨a1,c1,rfl,-⟩:=id hv1;obtain ⟨a2,c2,rfl,-⟩:=hv2;obtain ⟨a3,c3,rfl,-⟩:=id hv3;obtain ⟨a4,c4,rfl,-⟩:=hv4;obtain ⟨av,cv,rfl⟩:=hM.ins.shape;obtain ⟨au,cu,rfl⟩:=hM.lps.shape;obtain ⟨N1,hN1⟩:∃ n,n=MS0.ins.length:=⟨_,rfl⟩
 obtain ⟨N2,hN2⟩:∃ n,n=MS0.lps.length:=⟨_,rfl⟩
 rw [← hN1,← hN2] at hM⊢;obtain ⟨sn,hsn⟩:∃ sn,sn=aj d.name:=⟨_,rfl⟩
 obtain ⟨L1,hL1⟩:∃ L,L=d.params.length:=⟨_,rfl⟩
 obtain ⟨L2,hL2⟩:∃ L,L=d.needs.length:=⟨_,rfl⟩
 obtain ⟨L3,hL3⟩:∃ L,L=d.body.length:=⟨_,rfl⟩
 obtain ⟨L4,hL4⟩:∃ L,L=d.give.length:=⟨_,rfl⟩
 rw [← hL1] at hv1 h16;rw [← hL3] at hv3;rw [← hsn,← hL1,← hL2,← hL3,← hL4];have h0:NS w g MS0 (.slice av N1 cv) (.slice au N2 cu) bl bc 0:=⟨hM.row,⟨0,Nat.le_refl _,hl0⟩,⟨0,Nat.le_refl _,hc0⟩⟩
 have HM:=Hd hM;have HV1:=Hd hv1;have HV3:=Hd hv3;have HK:=Hd hk;have HB:=Hd hB;have HL1:=Hd hL1;have HOK:=Hd hok;have HLN:=Hd hLN;have HS:=Hd hS;have HGB:=Hd (And.intro hbl (And.intro hbc (And.intro hM.gb hb)));have hgs:=hM.lt;obtain ⟨n0,-,hm0⟩:=hM.lmap;obtain ⟨n1,-,hm1⟩:=hM.cmap;have HLT:=Hd (And.intro hM.lt (And.intro hm0.lt hm1.lt));have HNB:=Hd (show ∀ k∈[g,bl,bc],¬ B k from fun k hk hb=>by have:=hB k hb;have:=hM.gb;simp only [List.mem_cons,List.not_mem_nil,or_false] at hk;omega);clear hM hl0 hc0 hbl hbc hb hv1 hv3 hk hB hL1 hL2 hL3 hL4 hsn hok hLN hS hN1 hN2 hf hm0 hm1
 go_enter Tryz.func35,Tryz.ntmps35
 go_upto_region 1 with (fail)
 have oA:Only [] w (w.alloc (.cells #[.string sn,.slice a1 L1 c1,.slice a2 L2 c2,.slice a3 L3 c3,.slice a4 L4 c4] 60)):=(Only.refl _ _).alloc _;have hA:=ag w (.cells #[.string sn,.slice a1 L1 c1,.slice a2 L2 c2,.slice a3 L3 c3,.slice a4 L4 c4] 60);obtain ⟨gd,hgd⟩:∃ g,g=w.heap.size:=⟨_,rfl⟩
 rw [← hgd] at hA⊢;have HA:=Hd hA;have HN:=Hd (h0.quiet oA);have HO:=Hd oA;have HGD:=Hd hgd;have hdg:gd≠g:=by omega
 have hgs1:=oA.size;clear hA h0 oA hgd;generalize w.alloc (.cells #[.string sn,.slice a1 L1 c1,.slice a2 L2 c2,.slice a3 L3 c3,.slice a4 L4 c4] 60)=w1 at HA HN HO hgs1⊢;have x1:w1.cell? ⟨gd,1,none⟩=some (.slice a1 L1 c1):=ab 1 HA.out;have q0:w1.cell? ⟨g,0,none⟩=some (.int .i64 0):=ab 0 HN.out.row;have f0:=ae 0 HN.out.row;have hg1:g < w1.heap.size:=by omega
 go_upto_region 2 with (fail)
 obtain ⟨n2,o2⟩:=HN.out.cell 0 (.int .i64 (L1:Int)) (sP (L1:Int) []) (by rfl) (by rw [show (sP (L1:Int) []).lm=idx [] from rfl,idx_nil];rfl) rfl;replace HN:=Hd n2;replace HA:=Hd (o2.heap HA.out (by simpa using hdg));replace HO:=Hd ((HO.out.mono (T:=[g,bl,bc]) (by simp)).trans (o2.mono (T:=[g,bl,bc]) (by simp)) (fun k hk=>.inl hk));clear x1 q0 f0 n2 o2 hg1 hgs1;generalize w1.setCell ⟨g,0,none⟩ (.int .i64 (L1:Int))=w2 at HN HA HO⊢;have x1:w2.cell? ⟨gd,1,none⟩=some (.slice a1 L1 c1):=ab 1 HA.out;have hL16:L1≤16:=by omega
 go_wp2_with fail
 go_loopw [21] (fun ix wr=>∃ j:Nat,j≤L1∧ix=.int .i64 (j:Int)∧Hid (NS wr g (sP (L1:Int) (d.params.take j)) (.slice av N1 cv) (.slice au N2 cu) bl bc j)∧Hid (Only [g,bl,bc] w2 wr)) (fun ix _=>L1 - (intOf ix).toNat)
 case atStart=>exact ⟨0,Nat.zero_le _,rfl,Hd (by rw [List.take_zero];exact HN.out),Hd (Only.refl _ _)⟩
 case round=>
  obtain ⟨j,hjn,rfl,HNj,HOj⟩:=hrel
  by_cases hlt:j < L1
  ·have hlt':(j:Int) < (L1:Int):=by omega
   have j0:(0:Int)≤(j:Int):=by omega
   obtain ⟨nm,hnm⟩:∃ e,d.params[j]?=some e:=⟨_,List.getElem?_eq_getElem (by rw [← HL1.out];exact hlt)⟩
   obtain ⟨gp,rfl,z0⟩:∃ gp,a1=some ⟨gp,0,none⟩∧wr.cell? ⟨gp,j,none⟩=some (.string (aj nm)):=by
    obtain ⟨a',cap',e',-,hx⟩:=HV1.out;injection e' with e1 _ _
    subst e1;rcases hx with hx | ⟨gp,h1,h2,h3⟩
    ·rw [hx] at hnm;simp at hnm
    ·refine ⟨gp,h1,?_⟩;have q1:=h3 j nm hnm;have hne:gp∉[g,bl,bc]:=fun hm=>HNB.out gp hm h2;exact ac HOj.out (ac HO.out q1 hne) hne
   obtain ⟨sp,hsp⟩:∃ s,s=aj nm:=⟨_,rfl⟩
   rw [← hsp] at z0;have HSP:=Hd hsp;have HNI:=Hd (qB (List.nodup_append.1 HND.out).1 hnm);have hpl:=HK.out.whole.params nm (List.mem_of_getElem? hnm);have HTK:=Hd (show d.params.take j++[nm]=d.params.take (j+1) by rw [List.take_add_one,hnm];rfl);have HTL:=Hd (show (d.params.take j).length=j by rw [List.length_take,← HL1.out];omega);clear hsp hnm x1;(go_upto_region 5 with (fail));have oD:Only [] wr wr.drew:=(Only.refl [] wr).drew;refine wp_region_held_drew (S:=fun w'=>w'.cell? ⟨g,4,none⟩=some (.map (some bl))) (by kernel_rfl) (ab 4 (HNj.out.quiet oD).row) (fun hH=>?_);replace HNj:=Hd (HNj.out.quiet oD);replace HOj:=Hd (HOj.out.trans oD (by simp));clear oD z0;generalize wr.drew=wd at HNj HOj hH⊢;refine tk 0 hH ?_;refine tk 1 hH ?_;refine tk 2 hH ?_;refine tk 3 hH ?_;refine tk 4 hH ?_;refine tk 5 hH ?_;refine rd 6 (fun K hK=>?_);go_simp;refine (ku HNj.out (j:Int) (by show ((d.params.take j).length:Int)=_;rw [HTL.out]) j0 (by omega)).mono ?_;rintro en w4 ⟨rfl,n4,o4⟩;refine hK.out _ _ (ab 4 n4.row) (fun hH=>?_);have HN4:=Hd n4;have HO4:=Hd (HOj.out.trans (o4.mono (T:=[g,bl,bc]) (by simp)) (fun k hk=>.inl hk));obtain ⟨m1,hm1,hmm⟩:=n4.lmap;have HMM:=Hd hmm;clear hK K n4 o4 hmm HNj HOj;refine rd 7 (fun K hK=>?_);refine bW (by rfl) (.tmp 28) (.tmp 29) (.tmp 31) (by rfl) Tryz.underlying90 Tryz.underlying3 (by rfl) HMM.out (by omega) nm (by rw [← HSP.out];rfl) hpl (j:Int) (by rfl) (ro (by unfold n64;omega)) (fun w7 hm7 o7=>?_);have n7:=HN4.out.putL hlc hm1 hm7 o7;refine hK.out _ _ (ab 4 n7.row) (fun hH=>?_)
   have HN7:=Hd (show NS w7 g (sP (L1:Int) (d.params.take (j+1))) (.slice av N1 cv) (.slice au N2 cu) bl bc (j+1) by
    have e:=xK (P:=(L1:Int)) HNI.out;rw [HTK.out,HTL.out] at e;rw [← e]
    exact n7)
   have HO7:=Hd (HO4.out.trans (o7.mono (T:=[g,bl,bc]) (by simp)) (fun k hk=>.inl hk));clear hK K n7 o7 hm7 HMM HN4 HO4 hm1;refine wpAnyH_done (by kernel_rfl) ?_ _;clear hH;(go_wp2_with fail);refine ⟨⟨j+1,by omega,by simp,HN7,HO7⟩,?_⟩;simp [intOf];omega
  ·obtain rfl:L1=j:=by omega
   replace HN:=Hd (show NS wr g (sP (L1:Int) d.params) (.slice av N1 cv) (.slice au N2 cu) bl bc L1 by have:=HNj.out;rwa [List.take_of_length_le (by rw [← HL1.out];exact Nat.le_refl _)] at this);have y3:wr.cell? ⟨gd,3,none⟩=some (.slice a3 L3 c3):=ac HOj.out (ab 3 HA.out) (by have:=HGD.out;have:=HLT.out;simp only [List.mem_cons,List.not_mem_nil,or_false];omega);replace HO:=Hd (HO.out.trans HOj.out (fun k hk=>.inl hk));have KD:=oK (ah d.body) (by have:=HK.out.whole.size;omega) d.body (Nat.le_refl _) wr _ _ (SsV.kept HO.out HNB.out (fun _ h=>h) HV3.out);clear x1 HNj HOj HA;(go_wp2_with fail);refine KD.mono ?_;rintro en w5 ⟨v5,ts,rfl,hts,hdc,o5⟩;clear KD y3;have hlen:ts.length≤16:=by
    have h1:=congrArg List.length hdc;have h2:=(cN (aA d.body)).length_eq;rw [← HS.out] at h2;rw [List.length_map] at h1;omega
   have KO:=xE hts hlen;have HTS:=Hd (And.intro hts hdc);have HO5:=Hd o5;clear hts hdc o5;(go_wp2_with fail);refine KO.mono ?_;rintro en w6 ⟨rfl,ts',ht',hp',hs',o6⟩;have hts:=HTS.out.1;obtain ⟨a5,c5,rfl⟩:=ht'.shape;have hmap:ts'.map Sx.dc=S:=by
    rw [HS.out];refine xB HK.out.ord ?_ (List.pairwise_map.2 hs');have:=hp'.map Sx.dc;rw [HTS.out.2] at this;exact this
   obtain ⟨N,hN⟩:∃ N,N=ts'.length:=⟨_,rfl⟩
   have hNS:N=S.length:=by rw [hN,← hmap,List.length_map]
   rw [← hN] at ht' o6⊢;have hbk:∀ k∈(Value.slice a5 N c5).ownBlock.toList,wr.heap.size≤k:=fun k hk=>(ht'.lt (by simpa using hk)).1;have hwr:w.heap.size≤wr.heap.size:=HO.out.size;have hnot:∀ k,k < w.heap.size→k∉(Value.slice a5 N c5).ownBlock.toList:=fun k hk hm=>by have:=hbk k hm;omega
   have HOW:=Hd (show ∀ k,(Value.slice a5 N c5).ownBlock=some k→w.heap.size≤k from fun k hk=>Nat.le_trans hwr (hbk k (by simpa using hk)));replace HN:=Hd ((HN.out.quiet HO5.out).kept o6 (hnot g HLT.out.1) (hnot bl HLT.out.2.1) (hnot bc HLT.out.2.2));have HO6:=Hd ((HO.out.trans HO5.out (by simp)).trans o6 (fun k hk=>.inr (Nat.le_trans hwr (hbk k hk))));have HT:=Hd ht';have HMAP:=Hd hmap;have HNS:=Hd hNS;have hN16:L1+N≤16:=by omega
   obtain ⟨b6,hb6⟩:∃ b,b=wr.heap.size:=⟨_,rfl⟩
   rw [← hb6] at HT;clear KO ht' hp' hs' o6 hmap hNS hbk hwr hnot hts HTS hlen hb6 hN HO HO5 h16;go_wp2_with fail
   go_loopw [39] (fun ix wq=>∃ j:Nat,j≤N∧ix=.int .i64 (j:Int)∧Hid (NS wq g (sP (L1:Int) (d.params++(S.take j).map (·.1))) (.slice av N1 cv) (.slice au N2 cu) bl bc (L1+j))∧Hid (OR rS wq b6 (.slice a5 N c5) ts')∧Hid (Only [g,bl,bc] w wq)) (fun ix _=>N - (intOf ix).toNat)
   case atStart=>exact ⟨0,Nat.zero_le _,rfl,Hd (by rw [List.take_zero,List.map_nil,List.append_nil];exact HN.out),HT,HO6⟩
   case round=>
    obtain ⟨j,hjn,rfl,HNj,HTj,HOj⟩:=hrel
    by_cases hlt:j < N
    ·have hlt':(j:Int) < (N:Int):=by omega
     have j0:(0:Int)≤(j:Int):=by omega
     obtain ⟨x,hx⟩:∃ e,ts'[j]?=some e:=⟨_,List.getElem?_eq_getElem (by have:=congrArg List.length HMAP.out;rw [List.length_map] at this;have:=HNS.out;omega)⟩
     have hxS:S[j]?=some (Sx.dc x):=by rw [← HMAP.out,List.getElem?_map,hx];rfl
     obtain ⟨gt,ct,e1,hgt,x0,x1,x2,x3,x4,x5,x6,-⟩:=HTj.out.at7 hx;obtain rfl:a5=some ⟨gt,0,none⟩:=by injection e1
     obtain ⟨sp,hsp⟩:∃ s,s=aj x.nm:=⟨_,rfl⟩
     rw [← hsp] at x1;have HSP:=Hd hsp;have hpl:x.nm.length≤65536:=HSN.out (Sx.dc x) (List.mem_of_getElem? hxS);have HTK:=Hd (show d.params++(S.take j).map (·.1)++[x.nm]=d.params++(S.take (j+1)).map (·.1) by rw [List.take_add_one,hxS,List.map_append,List.append_assoc];rfl);have hxn:(S.map (·.1))[j]?=some x.nm:=by rw [List.getElem?_map,hxS];rfl
     have HNI:=Hd (show x.nm∉d.params++(S.take j).map (·.1) by
      have h1:=qB HND.out (j:=L1+j) (x:=x.nm) (by rw [HL1.out,List.getElem?_append_right (by omega),Nat.add_sub_cancel_left];exact hxn);rw [HL1.out,List.take_length_add_append,← List.map_take] at h1
      exact h1)
     have HTL:=Hd (show (d.params++(S.take j).map (·.1)).length=L1+j by rw [List.length_append,List.length_map,List.length_take,← HL1.out,← HNS.out];omega);clear e1 hx hxS hsp hxn;(go_upto_region 11 with (fail));have oA:Only [] wr (wr.alloc (.cells #[.int .i64 x.k,.string sp,.slice x.a0 x.l0 x.c0,.int .i64 x.n,.slice x.a1 x.l1 x.c1,.slice x.a2 x.l2 x.c2,.int .i64 x.p] 113)):=(Only.refl _ _).alloc _;have hY:=ag wr (.cells #[.int .i64 x.k,.string sp,.slice x.a0 x.l0 x.c0,.int .i64 x.n,.slice x.a1 x.l1 x.c1,.slice x.a2 x.l2 x.c2,.int .i64 x.p] 113);obtain ⟨gb,hgb⟩:∃ g,g=wr.heap.size:=⟨_,rfl⟩
     rw [← hgb] at hY⊢;have HGB2:=Hd (show gb≠g∧gb≠bl∧gb≠bc by have:=HLT.out;have:=HOj.out.size;omega);replace HNj:=Hd (HNj.out.quiet oA);replace HTj:=Hd (HTj.out.quiet oA);replace HOj:=Hd (HOj.out.trans oA (by simp));clear oA x0 x1 x2 x3 x4 x5 x6 hgt hgb;generalize wr.alloc (.cells #[.int .i64 x.k,.string sp,.slice x.a0 x.l0 x.c0,.int .i64 x.n,.slice x.a1 x.l1 x.c1,.slice x.a2 x.l2 x.c2,.int .i64 x.p] 113)=wa at hY HNj HTj HOj⊢;have oD:Only [] wa wa.drew:=(Only.refl [] wa).drew;refine wp_region_held_drew (S:=fun w'=>w'.cell? ⟨g,4,none⟩=some (.map (some bl))∧w'.cell? ⟨gb,1,none⟩=some (.string sp)) (by kernel_rfl) ⟨ab 4 (HNj.out.quiet oD).row,ac oD (ab 1 hY) (by simp)⟩ (fun hH=>?_);replace HNj:=Hd (HNj.out.quiet oD);replace HTj:=Hd (HTj.out.quiet oD);replace HOj:=Hd (HOj.out.trans oD (by simp));clear oD hY;generalize wa.drew=wd at HNj HTj HOj hH⊢;refine tk 0 hH ?_;refine tk 1 hH ?_;refine tk 2 hH ?_;refine tk 3 hH ?_;refine tk 4 hH ?_;refine tk 5 hH ?_;refine tk 6 hH ?_;refine rd 7 (fun K hK=>?_);go_simp;refine (ku HNj.out ((L1+j:Nat):Int) (by show ((d.params++(S.take j).map (·.1)).length:Int)=_;rw [HTL.out]) (by omega) (by omega)).mono ?_;rintro en w4 ⟨rfl,n4,o4⟩;refine hK.out _ _ ⟨ab 4 n4.row,ac o4 hH.2 (by simpa using HGB2.out.1)⟩ (fun hH=>?_);have HN4:=Hd n4;have HO4:=Hd (HOj.out.trans (o4.mono (T:=[g,bl,bc]) (by simp)) (fun k hk=>.inl hk));have HT4:=Hd (HTj.out.kept o4 (fun k hk e=>by have:=HOW.out k e;have:=HLT.out;rw [List.mem_singleton.1 hk] at *;omega));obtain ⟨m1,hm1,hmm⟩:=n4.lmap;have HMM:=Hd hmm;clear hK K n4 o4 hmm HNj HOj HTj;refine rd 8 (fun K hK=>?_);refine bW (by rfl) (.tmp 46) (.tmp 48) (.tmp 50) (by rfl) Tryz.underlying90 Tryz.underlying3 (by rfl) HMM.out (by omega) x.nm (by rw [← HSP.out];rfl) hpl ((L1+j:Nat):Int) (by rfl) (ro (by unfold n64;omega)) (fun w7 hm7 o7=>?_);have n7:=HN4.out.putL hlc hm1 hm7 o7;refine hK.out _ _ ⟨ab 4 n7.row,ac o7 hH.2 (by simpa using HGB2.out.2.1)⟩ (fun hH=>?_)
     have HN7:=Hd (show NS w7 g (sP (L1:Int) (d.params++(S.take (j+1)).map (·.1))) (.slice av N1 cv) (.slice au N2 cu) bl bc (L1+(j+1)) by
      have e:=xK (P:=(L1:Int)) HNI.out;rw [HTK.out,HTL.out] at e;rw [← e]
      exact n7)
     have HO7:=Hd (HO4.out.trans (o7.mono (T:=[g,bl,bc]) (by simp)) (fun k hk=>.inl hk));have HT7:=Hd (HT4.out.kept o7 (fun k hk e=>by have:=HOW.out k e;have:=HLT.out;rw [List.mem_singleton.1 hk] at *;omega));clear hK K n7 o7 hm7 HMM HN4 HO4 HT4 hm1;refine wpAnyH_done (by kernel_rfl) ?_ _;clear hH;(go_wp2_with fail);refine ⟨⟨j+1,by omega,by simp,HN7,HT7,HO7⟩,?_⟩;simp [intOf];omega
    ·obtain rfl:N=j:=by omega
     replace HN:=Hd (show NS wr g (sQ (L1:Int) (eU d) []) (.slice av N1 cv) (.slice au N2 cu) bl bc (L1+N) by
      have:=HNj.out;rw [List.take_of_length_le (by rw [← HNS.out];exact Nat.le_refl _),← HLN.out] at this;rw [sQ_nil]
      exact this)
     replace HT:=HTj;replace HO6:=HOj;clear HNj HTj HOj;go_wp2_with fail
     go_loopw [54] (fun ix wq=>∃ j:Nat,j≤N∧ix=.int .i64 (j:Int)∧Hid (NS wq g (sQ (L1:Int) (eU d) (S.take j)) (.slice av N1 cv) (.slice au N2 cu) bl bc (L1+N+j))∧Hid (OR rS wq b6 (.slice a5 N c5) ts')∧Hid (Only [g,bl,bc] w wq)) (fun ix _=>N - (intOf ix).toNat)
     case atStart=>exact ⟨0,Nat.zero_le _,rfl,Hd (by rw [List.take_zero];exact HN.out),HT,HO6⟩
     case round=>
      obtain ⟨j,hjn,rfl,HNj,HTj,HOj⟩:=hrel
      by_cases hlt:j < N
      ·have hlt':(j:Int) < (N:Int):=by omega
       have j0:(0:Int)≤(j:Int):=by omega
       obtain ⟨x,hx⟩:∃ e,ts'[j]?=some e:=⟨_,List.getElem?_eq_getElem (by have:=congrArg List.length HMAP.out;rw [List.length_map] at this;have:=HNS.out;omega)⟩
       have hxS:S[j]?=some (Sx.dc x):=by rw [← HMAP.out,List.getElem?_map,hx];rfl
       obtain ⟨gt,ct,e1,hgt,x0,x1,x2,x3,x4,x5,x6,-⟩:=HTj.out.at7 hx;obtain rfl:a5=some ⟨gt,0,none⟩:=by injection e1
       obtain ⟨sp,hsp⟩:∃ s,s=aj x.nm:=⟨_,rfl⟩
       rw [← hsp] at x1;have HSP:=Hd hsp;have hpl:x.nm.length≤65536:=HSN.out (Sx.dc x) (List.mem_of_getElem? hxS);have HTK:=Hd (show S.take (j+1)=S.take j++[Sx.dc x] by rw [List.take_add_one,hxS];rfl);have HXL:=Hd (show x.nm∈eU d by rw [HLN.out];exact List.mem_append.2 (.inr (List.mem_map.2 ⟨Sx.dc x,List.mem_of_getElem? hxS,rfl⟩)))
       have HXN:=Hd (show (Sx.dc x).1∉(S.take j).map (·.1) by
        rw [List.map_take]
        exact qB (List.nodup_append.1 HND.out).2.1 (by rw [List.getElem?_map,hxS];rfl))
       have hc8:(bD (S.take j)).length≤j:=by
        unfold bD;rw [List.length_map];exact Nat.le_trans (List.length_filter_le _ _) (by rw [List.length_take];omega)
       have hLL:(eU d).length=L1+N:=by rw [HLN.out,List.length_append,List.length_map,← HL1.out,← HNS.out]
       obtain ⟨xk,hxk⟩:∃ k,k=x.k:=⟨_,rfl⟩
       rw [← hxk] at x0;have HXK:=Hd (show (Sx.dc x).2.2=xk from hxk.symm);clear e1 hx hxS hsp hxk;(go_upto_region 16 with (fail));have oA:Only [] wr (wr.alloc (.cells #[.int .i64 xk,.string sp,.slice x.a0 x.l0 x.c0,.int .i64 x.n,.slice x.a1 x.l1 x.c1,.slice x.a2 x.l2 x.c2,.int .i64 x.p] 113)):=(Only.refl _ _).alloc _;have hY:=ag wr (.cells #[.int .i64 xk,.string sp,.slice x.a0 x.l0 x.c0,.int .i64 x.n,.slice x.a1 x.l1 x.c1,.slice x.a2 x.l2 x.c2,.int .i64 x.p] 113);obtain ⟨gb,hgb⟩:∃ g,g=wr.heap.size:=⟨_,rfl⟩
       rw [← hgb] at hY⊢;have HGB2:=Hd (show gb≠g∧gb≠bl∧gb≠bc by have:=HLT.out;have:=HOj.out.size;omega);replace HNj:=Hd (HNj.out.quiet oA);replace HTj:=Hd (HTj.out.quiet oA);replace HOj:=Hd (HOj.out.trans oA (by simp));clear oA x0 x1 x2 x3 x4 x5 x6 hgt hgb;generalize wr.alloc (.cells #[.int .i64 xk,.string sp,.slice x.a0 x.l0 x.c0,.int .i64 x.n,.slice x.a1 x.l1 x.c1,.slice x.a2 x.l2 x.c2,.int .i64 x.p] 113)=wa at hY HNj HTj HOj⊢;have HY:=Hd hY;have y0:wa.cell? ⟨gb,0,none⟩=some (.int .i64 xk):=ab 0 hY;clear hY
       by_cases h7:xk=7
       ·subst h7;(go_upto_region 18 with (fail));clear y0;have oD:Only [] wa wa.drew:=(Only.refl [] wa).drew;obtain ⟨X,hX⟩:∃ X,X=((sQ (L1:Int) (eU d) (S.take j)).lm x.nm).getD 0:=⟨_,rfl⟩
        have HX:=Hd hX;have hXb:n64 X:=by
         rw [hX];show n64 ((idx (eU d) x.nm).getD 0);rw [qz HXL.out];have:=idxN_lt HXL.out;unfold n64;omega
        have hlk:(Instr.lookup 90 (.map (some bl)) (.string sp) false).run Tryz.prog wa.drew=.ok (.int .i64 X) wa.drew:=by
         obtain ⟨n0,-,hm⟩:=HNj.out.lmap;have:=(hm.kept oD (by simp)).look1 Tryz.underlying90 Tryz.underlying3 cC hpl;rw [← HSP.out] at this;rw [HX.out];exact this
        refine wp_region_held_drew (S:=fun w'=>w'.cell? ⟨g,5,none⟩=some (.map (some bc))∧w'.cell? ⟨g,4,none⟩=some (.map (some bl))∧w'.cell? ⟨gb,1,none⟩=some (.string sp)∧(Instr.lookup 90 (.map (some bl)) (.string sp) false).run Tryz.prog w'=.ok (.int .i64 X) w') (by kernel_rfl) ⟨ab 5 (HNj.out.quiet oD).row,ab 4 (HNj.out.quiet oD).row,ac oD (ab 1 HY.out) (by simp),hlk⟩ (fun hH=>?_);replace HNj:=Hd (HNj.out.quiet oD);replace HTj:=Hd (HTj.out.quiet oD);replace HOj:=Hd (HOj.out.trans oD (by simp));clear oD hlk hX;generalize wa.drew=wd at HNj HTj HOj hH⊢;refine tk 0 hH ?_;refine tk 1 hH ?_;refine tk 2 hH ?_;refine tk 3 hH ?_;refine tk 4 hH ?_;refine tk 5 hH ?_;refine tk 6 hH ?_;refine tk 7 hH ?_;refine tk 8 hH ?_;refine tk 9 hH ?_;refine tk 10 hH ?_;refine tk 11 hH ?_;refine tk 12 hH ?_;obtain ⟨m1,hm1,hmm⟩:=HNj.out.cmap;have HMM:=Hd hmm;clear hmm;refine rd 13 (fun K hK=>?_);refine bW (by rfl) (.tmp 65) (.tmp 67) (.tmp 74) (by rfl) Tryz.underlying90 Tryz.underlying3 (by rfl) HMM.out (by omega) x.nm (by rw [← HSP.out];rfl) hpl X (by rfl) (ro hXb) (fun w7 hm7 o7=>?_);have n7:=HNj.out.putC hlc hm1 hm7 o7;have hlk7:(Instr.lookup 90 (.map (some bl)) (.string sp) false).run Tryz.prog w7=.ok (.int .i64 X) w7:=by
         obtain ⟨n0,-,hm⟩:=n7.lmap;have:=hm.look1 Tryz.underlying90 Tryz.underlying3 cC hpl;rw [← HSP.out] at this;rw [HX.out];exact this
        refine hK.out _ _ ⟨ab 5 n7.row,ab 4 n7.row,ac o7 hH.2.2.1 (by simpa using HGB2.out.2.2),hlk7⟩ (fun hH=>?_)
        have HN7:=Hd (show NS w7 g (sQ (L1:Int) (eU d) (S.take (j+1))) (.slice av N1 cv) (.slice au N2 cu) bl bc (L1+N+(j+1)) by
         have e:=sQ_seven (P:=(L1:Int)) (L:=eU d) (S:=S.take j) (x:=Sx.dc x) HXK.out HXL.out;rw [HTK.out,← e];rw [HX.out] at n7
         exact n7)
        have HO7:=Hd (HOj.out.trans (o7.mono (T:=[g,bl,bc]) (by simp)) (fun k hk=>.inl hk));have HT7:=Hd (HTj.out.kept o7 (fun k hk e=>by have:=HOW.out k e;have:=HLT.out;rw [List.mem_singleton.1 hk] at *;omega));clear hK K n7 o7 hm7 HMM HNj HTj HOj hm1 hlk7 hXb HX;refine wpAnyH_done (by kernel_rfl) ?_ _;clear hH;(go_wp2_with fail);refine ⟨⟨j+1,by omega,by simp,HN7,HT7,HO7⟩,?_⟩;simp [intOf];omega
       ·have e7:(xk == 7)=false:=by simpa using h7
        by_cases h8:xk=8
        ·subst h8;(go_upto_region 20 with (fail));clear y0;have oD:Only [] wa wa.drew:=(Only.refl [] wa).drew;refine wp_region_held_drew (S:=fun w'=>w'.cell? ⟨g,5,none⟩=some (.map (some bc))∧w'.cell? ⟨gb,1,none⟩=some (.string sp)) (by kernel_rfl) ⟨ab 5 (HNj.out.quiet oD).row,ac oD (ab 1 HY.out) (by simp)⟩ (fun hH=>?_);replace HNj:=Hd (HNj.out.quiet oD);replace HTj:=Hd (HTj.out.quiet oD);replace HOj:=Hd (HOj.out.trans oD (by simp));clear oD;generalize wa.drew=wd at HNj HTj HOj hH⊢;obtain ⟨X,hX⟩:∃ X,X=(sQ (L1:Int) (eU d) (S.take j)).lo:=⟨_,rfl⟩
         have hXe:X=(((eU d).length+(bD (S.take j)).length:Nat):Int):=hX;have hXb:0≤X∧X≤1000:=by omega
         have HX:=Hd hX;clear hXe hX;refine tk 0 hH ?_;refine tk 1 hH ?_;refine tk 2 hH ?_;refine tk 3 hH ?_;refine tk 4 hH ?_;refine tk 5 hH ?_;refine tk 6 hH ?_;refine rd 7 (fun K hK=>?_);go_simp;refine (ku HNj.out X HX.out.symm hXb.1 hXb.2).mono ?_;rintro en w4 ⟨rfl,n4,o4⟩;refine hK.out _ _ ⟨ab 5 n4.row,ac o4 hH.2 (by simpa using HGB2.out.1)⟩ (fun hH=>?_);have HN4:=Hd n4;have HO4:=Hd (HOj.out.trans (o4.mono (T:=[g,bl,bc]) (by simp)) (fun k hk=>.inl hk));have HT4:=Hd (HTj.out.kept o4 (fun k hk e=>by have:=HOW.out k e;have:=HLT.out;rw [List.mem_singleton.1 hk] at *;omega));obtain ⟨m1,hm1,hmm⟩:=n4.cmap;have HMM:=Hd hmm;clear hK K n4 o4 hmm HNj HOj HTj;refine rd 8 (fun K hK=>?_);refine bW (by rfl) (.tmp 80) (.tmp 82) (.tmp 84) (by rfl) Tryz.underlying90 Tryz.underlying3 (by rfl) HMM.out (by omega) x.nm (by rw [← HSP.out];rfl) hpl X (by rfl) (ro (by unfold n64;omega)) (fun w7 hm7 o7=>?_);have n7:=HN4.out.putC hlc hm1 hm7 o7;refine hK.out _ _ ⟨ab 5 n7.row,ac o7 hH.2 (by simpa using HGB2.out.2.2)⟩ (fun hH=>?_)
         have HN7:=Hd (show NS w7 g (sQ (L1:Int) (eU d) (S.take (j+1))) (.slice av N1 cv) (.slice au N2 cu) bl bc (L1+N+(j+1)) by
          have e:=sQ_eight (P:=(L1:Int)) (L:=eU d) (S:=S.take j) (x:=Sx.dc x) HXK.out HXN.out;rw [HTK.out,← e];rw [HX.out] at n7
          exact n7)
         have HO7:=Hd (HO4.out.trans (o7.mono (T:=[g,bl,bc]) (by simp)) (fun k hk=>.inl hk));have HT7:=Hd (HT4.out.kept o7 (fun k hk e=>by have:=HOW.out k e;have:=HLT.out;rw [List.mem_singleton.1 hk] at *;omega));clear hK K n7 o7 hm7 HMM HN4 HO4 HT4 hm1 hXb HX;refine wpAnyH_done (by kernel_rfl) ?_ _;clear hH;(go_wp2_with fail);refine ⟨⟨j+1,by omega,by simp,HN7,HT7,HO7⟩,?_⟩;simp [intOf];omega
        ·have e8:(xk == 8)=false:=by simpa using h8
         have HN7:=Hd (show NS wa g (sQ (L1:Int) (eU d) (S.take (j+1))) (.slice av N1 cv) (.slice au N2 cu) bl bc (L1+N+(j+1)) by
          rw [HTK.out,sQ_none (by rw [HXK.out];exact h7) (by rw [HXK.out];exact h8)]
          exact HNj.out.le (by omega))
         clear HNj;(go_wp2_with fail);refine ⟨⟨j+1,by omega,by simp,HN7,HTj,HOj⟩,?_⟩;simp [intOf];omega
      ·obtain rfl:N=j:=by omega
       have hn9:=HNj.out;rw [List.take_of_length_le (by rw [← HNS.out];exact Nat.le_refl _)] at hn9;have HN9:=Hd hn9;clear hn9;(go_wp2_with fail);go_end0;exact ⟨rfl,sQ (L1:Int) (eU d) S,by rw [HL1.out];exact named_of HOK.out rfl HS.out,HM.out.mk_ HOj.out HN9.out (by omega) rfl rfl,HOj.out⟩
end Go.Proofs.YtcebchffcmpfeaaGreat
