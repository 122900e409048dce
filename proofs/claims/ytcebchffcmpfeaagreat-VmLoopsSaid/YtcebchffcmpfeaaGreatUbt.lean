import Derived.Test.YtcebchffcmpfeaaGreatUat
namespace Go.Proofs.YtcebchffcmpfeaaGreat
set_option linter.unusedVariables false
set_option linter.unusedSimpArgs false
set_option maxRecDepth 100000
set_option maxHeartbeats 16000000
open Go.RowKit Go.Maps
def cmpI (a b:Int):Int:=if a < b then -1 else if b < a then 1 else 0
theorem oL (n:Int) (w:World):Calls Tryz.prog 118 #[.int .i64 n] w fun en w'=>en=.returned (.bool false)∧w=w':=by
 go_enter Tryz.func118,Tryz.ntmps118
 go_wp2_with fail
 go_ret;exact ⟨rfl,rfl⟩
theorem qy (a b:Int) (w:World):Calls Tryz.prog 102 #[.int .i64 a,.int .i64 b] w fun en w'=>en=.returned (.int .i64 (cmpI a b))∧w=w':=by
 go_enter Tryz.func102,Tryz.ntmps102
 go_wp2_with fail
 refine (oL a w).mono ?_;rintro en w1 ⟨rfl,rfl⟩;go_wp2_with fail
 refine (oL b w).mono ?_;rintro en w1 ⟨rfl,rfl⟩
 by_cases h:a < b
 ·go_wp2_with fail
  go_ret;exact ⟨by unfold cmpI;rw [if_pos h];rfl,rfl⟩
 ·by_cases h2:b < a
  ·(go_wp2_with fail);go_ret;exact ⟨by unfold cmpI;rw [if_neg (by omega),if_pos h2];rfl,rfl⟩
  ·(go_wp2_with fail);go_ret;exact ⟨by unfold cmpI;rw [if_neg (by omega),if_neg (by omega)];rfl,rfl⟩
theorem cmp_any (w:World) (k1 n1 p1 k2 n2 p2:Int) (s1 s2:ByteArray) (a0 a1 a2 b0 b1 b2:Option Addr) (l0 l1 l2 c0 c1 c2 m0 m1 m2 d0 d1 d2:Nat) :
  Calls Tryz.prog 101 #[.agg #[.int .i64 k1,.string s1,.slice a0 l0 c0,.int .i64 n1,.slice a1 l1 c1,.slice a2 l2 c2,.int .i64 p1],.agg #[.int .i64 k2,.string s2,.slice b0 m0 d0,.int .i64 n2,.slice b1 m1 d1,.slice b2 m2 d2,.int .i64 p2]] w
   fun en w'=>en=.returned (.int .i64 (cmpI p1 p2))∧Only [] w w':=by
 have o2:Only [] w ((w.alloc (.cells #[.int .i64 k1,.string s1,.slice a0 l0 c0,.int .i64 n1,.slice a1 l1 c1,.slice a2 l2 c2,.int .i64 p1] 113)).alloc (.cells #[.int .i64 k2,.string s2,.slice b0 m0 d0,.int .i64 n2,.slice b1 m1 d1,.slice b2 m2 d2,.int .i64 p2] 113)):=((Only.refl _ _).alloc _).alloc _;have h2:=ag (w.alloc (.cells #[.int .i64 k1,.string s1,.slice a0 l0 c0,.int .i64 n1,.slice a1 l1 c1,.slice a2 l2 c2,.int .i64 p1] 113)) (.cells #[.int .i64 k2,.string s2,.slice b0 m0 d0,.int .i64 n2,.slice b1 m1 d1,.slice b2 m2 d2,.int .i64 p2] 113);have h1:=((Only.refl [] (w.alloc (.cells #[.int .i64 k1,.string s1,.slice a0 l0 c0,.int .i64 n1,.slice a1 l1 c1,.slice a2 l2 c2,.int .i64 p1] 113))).alloc (.cells #[.int .i64 k2,.string s2,.slice b0 m0 d0,.int .i64 n2,.slice b1 m1 d1,.slice b2 m2 d2,.int .i64 p2] 113)).heap (ag w (.cells #[.int .i64 k1,.string s1,.slice a0 l0 c0,.int .i64 n1,.slice a1 l1 c1,.slice a2 l2 c2,.int .i64 p1] 113)) (by simp);have hsz:(w.alloc (.cells #[.int .i64 k1,.string s1,.slice a0 l0 c0,.int .i64 n1,.slice a1 l1 c1,.slice a2 l2 c2,.int .i64 p1] 113)).heap.size=w.heap.size+1:=Array.size_push _;rw [hsz] at h2;have H1:=Hd h1;have H2:=Hd h2;have O2:=Hd o2;clear o2 h1 h2 hsz
 go_enter Tryz.func101,Tryz.ntmps101
 go_upto_region 1 with (fail)
 have z1:=ab 6 H1.out;have z2:=ab 6 H2.out;simp only [List.getElem?_toArray,List.getElem?_cons_succ,List.getElem?_cons_zero] at z1 z2;clear H1 H2;generalize (w.alloc (.cells #[.int .i64 k1,.string s1,.slice a0 l0 c0,.int .i64 n1,.slice a1 l1 c1,.slice a2 l2 c2,.int .i64 p1] 113)).alloc (.cells #[.int .i64 k2,.string s2,.slice b0 m0 d0,.int .i64 n2,.slice b1 m1 d1,.slice b2 m2 d2,.int .i64 p2] 113)=w2 at z1 z2 O2⊢;go_wp2_with fail
 refine (qy p1 p2 w2).mono ?_;rintro en w3 ⟨rfl,rfl⟩;go_wp2_with fail
 go_ret;exact ⟨rfl,O2.out⟩
abbrev LeX (a b:Sx):Prop:=a.p≤b.p
structure Ins1 (ts A B C:List Sx) (x:Sx):Prop where
 perm:(A++x :: B++C).Perm ts
 sor:(A++B).Pairwise LeX
 lt:∀ y∈B,x.p≤y.p
theorem Ins1.swap {ts A B C:List Sx} {x y:Sx} (h:Ins1 ts (A++[y]) B C x) (hxy:x.p < y.p):Ins1 ts A (y :: B) C x:=by
 refine ⟨?_,by have:=h.sor;simpa using this,fun z hz=>?_⟩
 ·refine List.Perm.trans ?_ h.perm;simp only [List.append_assoc,List.cons_append,List.nil_append];exact List.Perm.append_left _ (List.Perm.swap _ _ _)
 ·rcases List.mem_cons.1 hz with rfl | hz
  ·omega
  ·exact h.lt z hz
theorem Ins1.stop0 {ts B C:List Sx} {x:Sx} (h:Ins1 ts [] B C x):(x :: B).Pairwise LeX:=List.Pairwise.cons h.lt (by simpa using h.sor)
theorem Ins1.stop1 {ts A B C:List Sx} {x y:Sx} (h:Ins1 ts (A++[y]) B C x) (hxy:¬ x.p < y.p):(A++[y]++x :: B).Pairwise LeX:=by
 have hs:=h.sor;rw [List.pairwise_append] at hs⊢;obtain ⟨h1,h2,h3⟩:=hs;refine ⟨h1,List.Pairwise.cons h.lt h2,fun a ha b hb=>?_⟩;rcases List.mem_cons.1 hb with rfl | hb
 ·rw [List.pairwise_append] at h1;rcases List.mem_append.1 ha with ha | ha
  ·have:=h1.2.2 a ha y (by simp);have:a.p≤y.p:=this;show a.p≤b.p;omega
  ·rw [List.mem_singleton.1 ha];show y.p≤b.p;omega
 ·exact h3 a ha b hb
theorem OR.put {w:World} {base g n cap:Nat} {l:List Sx} (h:OR rS w base (.slice (some ⟨g,0,none⟩) n cap) l) {i:Nat} {x:Sx} (hx:l[i]?=some x) (y:Sx) :
  OR rS (((((((w.setCell ⟨g,i*7,none⟩ (.int .i64 y.k)).setCell ⟨g,i*7+1,none⟩ (.string (aj y.nm))).setCell ⟨g,i*7+2,none⟩ (.slice y.a0 y.l0 y.c0)).setCell ⟨g,i*7+3,none⟩ (.int .i64 y.n)).setCell ⟨g,i*7+4,none⟩ (.slice y.a1 y.l1 y.c1)).setCell ⟨g,i*7+5,none⟩ (.slice y.a2 y.l2 y.c2)).setCell ⟨g,i*7+6,none⟩ (.int .i64 y.p)) base (.slice (some ⟨g,0,none⟩) n cap) (l.set i y):=by
 have hi:i < l.length:=(List.getElem?_eq_some_iff.1 hx).1;have e:∀ (m:List Sx) (z:Sx),m.length=l.length→(m.set i z)[i]?=some z:=fun m z hm=>by rw [List.getElem?_set_self (by omega)]
 have s0:=h.set (i:=i) (x:=x) (y:={x with k:=y.k }) (j:=0) (u:=.int .i64 y.k) hx (by decide) rfl;have s1:=s0.set (i:=i) (x:={x with k:=y.k }) (y:={x with k:=y.k,nm:=y.nm }) (j:=1) (u:=.string (aj y.nm)) (e _ _ (by simp)) (by decide) rfl;have s2:=s1.set (i:=i) (x:={x with k:=y.k,nm:=y.nm }) (y:={x with k:=y.k,nm:=y.nm,a0:=y.a0,l0:=y.l0,c0:=y.c0 }) (j:=2) (u:=.slice y.a0 y.l0 y.c0) (e _ _ (by simp)) (by decide) rfl;have s3:=s2.set (i:=i) (x:={x with k:=y.k,nm:=y.nm,a0:=y.a0,l0:=y.l0,c0:=y.c0 }) (y:={x with k:=y.k,nm:=y.nm,a0:=y.a0,l0:=y.l0,c0:=y.c0,n:=y.n }) (j:=3) (u:=.int .i64 y.n) (e _ _ (by simp)) (by decide) rfl;have s4:=s3.set (i:=i) (x:={x with k:=y.k,nm:=y.nm,a0:=y.a0,l0:=y.l0,c0:=y.c0,n:=y.n }) (y:={y with a2:=x.a2,l2:=x.l2,c2:=x.c2,p:=x.p }) (j:=4) (u:=.slice y.a1 y.l1 y.c1) (e _ _ (by simp)) (by decide) rfl;have s5:=s4.set (i:=i) (x:={y with a2:=x.a2,l2:=x.l2,c2:=x.c2,p:=x.p }) (y:={y with p:=x.p }) (j:=5) (u:=.slice y.a2 y.l2 y.c2) (e _ _ (by simp)) (by decide) rfl;have s6:=s5.set (i:=i) (x:={y with p:=x.p }) (y:=y) (j:=6) (u:=.int .i64 y.p) (e _ _ (by simp)) (by decide) rfl;simp only [List.set_set] at s6;exact s6
theorem OR.at7 {w:World} {base:Nat} {v:Value} {l:List Sx} (h:OR rS w base v l) {i:Nat} {x:Sx} (hi:l[i]?=some x):∃ g cap,v=.slice (some ⟨g,0,none⟩) l.length cap∧g < w.heap.size∧w.cell? ⟨g,i*7,none⟩=some (.int .i64 x.k)∧w.cell? ⟨g,i*7+1,none⟩=some (.string (aj x.nm))∧
  w.cell? ⟨g,i*7+2,none⟩=some (.slice x.a0 x.l0 x.c0)∧w.cell? ⟨g,i*7+3,none⟩=some (.int .i64 x.n)∧w.cell? ⟨g,i*7+4,none⟩=some (.slice x.a1 x.l1 x.c1)∧w.cell? ⟨g,i*7+5,none⟩=some (.slice x.a2 x.l2 x.c2)∧w.cell? ⟨g,i*7+6,none⟩=some (.int .i64 x.p)∧∀ j,w.frozen? ⟨g,j,none⟩=false:=by
 obtain ⟨g,cap,e,h1,h2,h3,h4⟩:=h.at_ hi;exact ⟨g,cap,e,h2,h3 0 _ rfl,h3 1 _ rfl,h3 2 _ rfl,h3 3 _ rfl,h3 4 _ rfl,h3 5 _ rfl,h3 6 _ rfl,h4⟩
theorem OR.frz {w:World} {base g n cap:Nat} {l:List Sx} (h:OR rS w base (.slice (some ⟨g,0,none⟩) n cap) l) {i:Nat} {x:Sx} (hi:l[i]?=some x):∀ j,w.frozen? ⟨g,j,none⟩=false:=by
 obtain ⟨g',cap',e,-,-,-,-,-,-,-,-,h4⟩:=h.at7 hi;injection e with e _ _
 injection e with e
 injection e with e _ _
 subst e;exact h4
theorem xC (A B C:List Sx) (x y:Sx):((A++[y]++x :: B++C).set (A.length+1) y).set A.length x=A++x :: (y :: B)++C:=by
 have e:A++[y]++x :: B++C=A++(y :: x :: (B++C)):=by simp
 rw [e,List.set_append_right _ _ (by omega),List.set_append_right _ _ (by omega),show A.length+1 - A.length=1 by omega,Nat.sub_self];simp
def xD (w:World) (base:Nat) (v:Value) (ts:List Sx) (en:Ending) (w':World):Prop:=en=.returned (.tuple #[])∧∃ ts',OR rS w' base v ts'∧ts'.Perm ts∧ts'.Pairwise LeX∧Only v.ownBlock.toList w w'
theorem tN {w:World} {base n:Nat} {v:Value} {ts:List Sx} (h:OR rS w base v ts) (hn:n=ts.length) (hnn:n≤1000) :
  Calls Tryz.prog 129 #[v,.int .i64 0,.int .i64 (n:Int),.func (.func 101) #[] #[]] w (xD w base v ts):=by
 obtain ⟨a,cap,rfl⟩:=h.shape;rw [← hn] at h⊢;have HH:=Hd h;have HN:=Hd hn;clear h hn;obtain ⟨S0,hS0⟩:∃ S,S=(Value.slice a n cap).ownBlock.toList:=⟨_,rfl⟩
 have HS0:=Hd hS0;clear hS0
 go_enter Tryz.func129,Tryz.ntmps129
 go_wp2_with fail
 go_loopg [8,9] (n - 1) (fun gk ix _ wr=>∃ (i:Nat) (l:List Sx),1≤i∧(i≤n∨i=1)∧gk=n - i∧ix=.int .i64 (i:Int)∧Hid (l.Perm ts)∧Hid ((l.take i).Pairwise LeX)∧Hid (OR rS wr base (.slice a n cap) l)∧Hid (Only S0 w wr))
 case atStart=>exact ⟨1,ts,Nat.le_refl _,.inr rfl,rfl,rfl,Hd (List.Perm.refl _),Hd (by cases ts with | nil=>exact List.Pairwise.nil | cons x xs=>simp),HH,Hd (Only.refl _ _)⟩
 case round=>
  obtain ⟨i,l,hi1,hi2,hgk,rfl,HP,HQ,HR,HO⟩:=hrel;have HLN:=Hd (show l.length=n by rw [HP.out.length_eq,HN.out])
  by_cases hlt:i < n
  ·have hlt':(i:Int) < (n:Int):=by omega
   obtain ⟨x0,hx0⟩:∃ x,l[i]?=some x:=⟨_,List.getElem?_eq_getElem (by rw [HLN.out];exact hlt)⟩
   have hsp:l=l.take i++x0 :: l.drop (i+1):=by
    obtain ⟨h1,h2⟩:=List.getElem?_eq_some_iff.1 hx0;rw [← h2,← List.drop_eq_getElem_cons h1,List.take_append_drop]
   have HI0:=Hd (show Ins1 ts (l.take i) [] (l.drop (i+1)) x0 from ⟨by rw [List.append_assoc];show (l.take i++x0 :: l.drop (i+1)).Perm ts;rw [← hsp];exact HP.out,by rw [List.append_nil];exact HQ.out,fun y hy=>by simp at hy⟩);have HR0:=Hd (show OR rS wr base (.slice a n cap) (l.take i++x0 :: []++l.drop (i+1)) by rw [List.append_assoc];show OR rS wr base _ (l.take i++x0 :: l.drop (i+1));rw [← hsp];exact HR.out);have HL0:=Hd (show (l.take i).length+([]:List Sx).length=i by rw [List.length_take,HLN.out,List.length_nil];omega);obtain ⟨A0,hA0⟩:∃ A,A=l.take i:=⟨_,rfl⟩
   obtain ⟨C,hC⟩:∃ A,A=l.drop (i+1):=⟨_,rfl⟩
   rw [← hA0,← hC] at HI0 HR0;rw [← hA0] at HL0;have HA0:=Hd (show A0.length=i by have:=HL0.out;simpa using this);clear hsp hx0 hA0 hC HP HQ HR;go_wp2_with fail
   go_loopw [9] (fun jx wq=>∃ (q:Nat) (A B:List Sx),jx=.int .i64 (q:Int)∧q≤i∧Hid (q=A.length)∧Hid (A.length+B.length=i)∧Hid (Ins1 ts A B C x0)∧Hid (OR rS wq base (.slice a n cap) (A++x0 :: B++C))∧Hid (Only S0 w wq)) (fun jx _=>(intOf jx).toNat)
   case atStart=>exact ⟨i,A0,[],rfl,Nat.le_refl _,Hd HA0.out.symm,HL0,HI0,HR0,HO⟩
   case round=>
    obtain ⟨q,A,B,rfl,hqi,HQL,HAB,HI,HRq,HOq⟩:=hrel
    by_cases h0:q=0
    ·subst h0;have hA:A=[]:=List.eq_nil_of_length_eq_zero HQL.out.symm;subst hA;have HS:=Hd HI.out.stop0;have HPm:=Hd HI.out.perm;(go_upto_region 4 with (fail));have oD:Only [] wr wr.drew:=(Only.refl [] wr).drew;refine wp_region_held_drew (S:=fun _=>True) (by kernel_rfl) trivial (fun hH=>?_);have HR1:=Hd (HRq.out.quiet oD);have HO1:=Hd (HOq.out.trans oD (by simp));clear oD HRq HOq;generalize wr.drew=wd at HR1 HO1 hH⊢;refine tk 0 hH ?_;refine tk 1 hH ?_;refine tk 2 hH ?_;refine tk 3 hH ?_;refine sk 4 hH ?_;refine sk 5 hH ?_;refine sk 6 hH ?_;refine sk 7 hH ?_;refine sk 8 hH ?_;refine sk 9 hH ?_;refine sk 10 hH ?_;refine sk 11 hH ?_;refine sk 12 hH ?_;refine sk 13 hH ?_;refine sk 14 hH ?_;refine sk 15 hH ?_;refine tk 16 hH ?_;refine wpAnyH_done (by kernel_rfl) ?_ _;(go_wp2_with fail);have HBL:=Hd (show (x0 :: B).length=i+1 by have:=HAB.out;rw [List.length_nil] at this;rw [List.length_cons];omega)
     go_roundg (n - (i+1))
     case measure=>omega
     case rel=>exact ⟨i+1,[]++x0 :: B++C,by omega,by omega,by omega,by go_num,HPm,Hd (by rw [List.nil_append,List.take_left' HBL.out];exact HS.out),HR1,HO1⟩
    ·obtain ⟨r,hr⟩:∃ r,q=r+1:=⟨q - 1,by omega⟩
     subst hr;obtain ⟨A',y,hA⟩:∃ A' y,A=A'++[y]:=by
      rcases List.eq_nil_or_concat A with e | ⟨A',y,e⟩
      ·have:=HQL.out;rw [e,List.length_nil] at this;omega
      ·exact ⟨A',y,by rw [e,List.concat_eq_append]⟩
     subst hA;have HRL:=Hd (show r=A'.length by have:=HQL.out;rw [List.length_append,List.length_singleton] at this;omega);have hx:(A'++[y]++x0 :: B++C)[r+1]?=some x0:=by rw [HRL.out];simp
     have hy:(A'++[y]++x0 :: B++C)[r]?=some y:=by rw [HRL.out];simp
     have HXI:=Hd (And.intro hx hy);obtain ⟨g,cap',e1,hg,x0c,x1c,x2c,x3c,x4c,x5c,x6c,hfz⟩:=HRq.out.at7 hx;obtain ⟨g',cap'',e2,-,y0c,y1c,y2c,y3c,y4c,y5c,y6c,-⟩:=HRq.out.at7 hy;obtain rfl:g=g':=by rw [e1] at e2;injection e2 with e2 _ _;injection e2 with e2;injection e2
     obtain rfl:a=some ⟨g,0,none⟩:=by injection e1
     obtain ⟨s0,hs0⟩:∃ s,s=aj x0.nm:=⟨_,rfl⟩
     obtain ⟨t0,ht0⟩:∃ s,s=aj y.nm:=⟨_,rfl⟩
     rw [← hs0] at x1c;rw [← ht0] at y1c;have HS0':=Hd hs0;have HT0:=Hd ht0;have hsub:(r:Int)+1 - 1=(r:Int):=by omega
     have hrp:(0:Int) < (r:Int)+1:=by omega
     have hrp':(0:Int)≤(r:Int)+1:=by omega
     have hrn:(r:Int)+1 < (n:Int):=by omega
     have hr0:(0:Int)≤(r:Int):=by omega
     have hrn':(r:Int) < (n:Int):=by omega
     have hwr:IntKind.i64.wrap (r:Int)=(r:Int):=by rw [IntKind.wrap_i64];omega
     clear e1 e2 hs0 ht0 hx hy;(go_upto_region 4 with (fail));have oD:Only [] wr wr.drew:=(Only.refl [] wr).drew;refine wp_region_held_drew (S:=fun w'=>w'.cell? ⟨g,(r+1)*7,none⟩=some (.int .i64 x0.k)∧w'.cell? ⟨g,(r+1)*7+1,none⟩=some (.string s0)∧w'.cell? ⟨g,(r+1)*7+2,none⟩=some (.slice x0.a0 x0.l0 x0.c0)∧w'.cell? ⟨g,(r+1)*7+3,none⟩=some (.int .i64 x0.n)∧w'.cell? ⟨g,(r+1)*7+4,none⟩=some (.slice x0.a1 x0.l1 x0.c1)∧w'.cell? ⟨g,(r+1)*7+5,none⟩=some (.slice x0.a2 x0.l2 x0.c2)∧w'.cell? ⟨g,(r+1)*7+6,none⟩=some (.int .i64 x0.p)∧w'.cell? ⟨g,r*7,none⟩=some (.int .i64 y.k)∧w'.cell? ⟨g,r*7+1,none⟩=some (.string t0)∧w'.cell? ⟨g,r*7+2,none⟩=some (.slice y.a0 y.l0 y.c0)∧w'.cell? ⟨g,r*7+3,none⟩=some (.int .i64 y.n)∧w'.cell? ⟨g,r*7+4,none⟩=some (.slice y.a1 y.l1 y.c1)∧w'.cell? ⟨g,r*7+5,none⟩=some (.slice y.a2 y.l2 y.c2)∧w'.cell? ⟨g,r*7+6,none⟩=some (.int .i64 y.p)) (by kernel_rfl) ⟨ac oD x0c (by simp),ac oD x1c (by simp),ac oD x2c (by simp),ac oD x3c (by simp),ac oD x4c (by simp),ac oD x5c (by simp),ac oD x6c (by simp),ac oD y0c (by simp),ac oD y1c (by simp),ac oD y2c (by simp),ac oD y3c (by simp),ac oD y4c (by simp),ac oD y5c (by simp),ac oD y6c (by simp)⟩ (fun hH=>?_);have HR1:=Hd (HRq.out.quiet oD);have HO1:=Hd (HOq.out.trans oD (by simp));clear oD HRq HOq x0c x1c x2c x3c x4c x5c x6c y0c y1c y2c y3c y4c y5c y6c;generalize wr.drew=wd at HR1 HO1 hH⊢;refine tk 0 hH ?_;refine tk 1 hH ?_;refine tk 2 hH ?_;refine tk 3 hH ?_;refine tk 4 hH ?_;refine tk 5 hH ?_;refine tk 6 hH ?_;refine tk 7 hH ?_;refine tk 8 hH ?_;refine tk 9 hH ?_;refine tk 10 hH ?_;refine tk 11 hH ?_;refine tk 12 hH ?_;refine tk 13 hH ?_;refine rd 14 (fun K hK=>?_);go_simp;refine (cmp_any wd _ _ _ _ _ _ _ _ _ _ _ _ _ _ _ _ _ _ _ _ _ _ _ _ _ _).mono ?_;rintro en w5 ⟨rfl,o5⟩;refine hK.out _ _ ⟨ac o5 hH.1 (by simp),ac o5 hH.2.1 (by simp),ac o5 hH.2.2.1 (by simp),ac o5 hH.2.2.2.1 (by simp),ac o5 hH.2.2.2.2.1 (by simp),ac o5 hH.2.2.2.2.2.1 (by simp),ac o5 hH.2.2.2.2.2.2.1 (by simp),ac o5 hH.2.2.2.2.2.2.2.1 (by simp),ac o5 hH.2.2.2.2.2.2.2.2.1 (by simp),ac o5 hH.2.2.2.2.2.2.2.2.2.1 (by simp),ac o5 hH.2.2.2.2.2.2.2.2.2.2.1 (by simp),ac o5 hH.2.2.2.2.2.2.2.2.2.2.2.1 (by simp),ac o5 hH.2.2.2.2.2.2.2.2.2.2.2.2.1 (by simp),ac o5 hH.2.2.2.2.2.2.2.2.2.2.2.2.2 (by simp)⟩ (fun hH=>?_);have HR5:=Hd (HR1.out.quiet o5);have HO5:=Hd (HO1.out.trans o5 (by simp));have hg5:=o5.size;clear hK K o5 HR1 HO1;obtain ⟨c,hc⟩:∃ c,c=cmpI x0.p y.p:=⟨_,rfl⟩
     rw [← hc]
     by_cases hp:x0.p < y.p
     ·have hcn:c < 0:=by rw [hc];unfold cmpI;rw [if_pos hp];decide
      have HP:=Hd hp;clear hc hp;refine tk 15 hH ?_;refine tk 16 hH ?_;refine wpAnyH_done (by kernel_rfl) ?_ _;clear hcn;(go_upto_region 6 with (fail));have oD:Only [] w5 w5.drew:=(Only.refl [] w5).drew;refine pf (S:=fun w'=>w'.cell? ⟨g,(r+1)*7,none⟩=some (.int .i64 x0.k)∧w'.cell? ⟨g,(r+1)*7+1,none⟩=some (.string s0)∧w'.cell? ⟨g,(r+1)*7+2,none⟩=some (.slice x0.a0 x0.l0 x0.c0)∧w'.cell? ⟨g,(r+1)*7+3,none⟩=some (.int .i64 x0.n)∧w'.cell? ⟨g,(r+1)*7+4,none⟩=some (.slice x0.a1 x0.l1 x0.c1)∧w'.cell? ⟨g,(r+1)*7+5,none⟩=some (.slice x0.a2 x0.l2 x0.c2)∧w'.cell? ⟨g,(r+1)*7+6,none⟩=some (.int .i64 x0.p)∧w'.cell? ⟨g,r*7,none⟩=some (.int .i64 y.k)∧w'.cell? ⟨g,r*7+1,none⟩=some (.string t0)∧w'.cell? ⟨g,r*7+2,none⟩=some (.slice y.a0 y.l0 y.c0)∧w'.cell? ⟨g,r*7+3,none⟩=some (.int .i64 y.n)∧w'.cell? ⟨g,r*7+4,none⟩=some (.slice y.a1 y.l1 y.c1)∧w'.cell? ⟨g,r*7+5,none⟩=some (.slice y.a2 y.l2 y.c2)∧w'.cell? ⟨g,r*7+6,none⟩=some (.int .i64 y.p)) [0,1,2,3,4,5,6,7,8,9,10,11,12,13,14,16] (by kernel_rfl) ⟨ac oD hH.1 (by simp),ac oD hH.2.1 (by simp),ac oD hH.2.2.1 (by simp),ac oD hH.2.2.2.1 (by simp),ac oD hH.2.2.2.2.1 (by simp),ac oD hH.2.2.2.2.2.1 (by simp),ac oD hH.2.2.2.2.2.2.1 (by simp),ac oD hH.2.2.2.2.2.2.2.1 (by simp),ac oD hH.2.2.2.2.2.2.2.2.1 (by simp),ac oD hH.2.2.2.2.2.2.2.2.2.1 (by simp),ac oD hH.2.2.2.2.2.2.2.2.2.2.1 (by simp),ac oD hH.2.2.2.2.2.2.2.2.2.2.2.1 (by simp),ac oD hH.2.2.2.2.2.2.2.2.2.2.2.2.1 (by simp),ac oD hH.2.2.2.2.2.2.2.2.2.2.2.2.2 (by simp)⟩ (fun hH=>?_);have HR6:=Hd (HR5.out.quiet oD);have HO6:=Hd (HO5.out.trans oD (by simp));clear oD HR5 HO5;generalize w5.drew=w6 at HR6 HO6 hH⊢;refine tkP 0 ?_;refine tkP 1 ?_;refine tkP 2 ?_;refine tkP 3 ?_;refine tkP 4 ?_;refine tkP 5 ?_;refine tkP 6 ?_;refine tkP 7 ?_;refine tkP 8 ?_;refine tkC 9 hH ?_;refine tkP 10 ?_;refine tkP 11 ?_;refine tkP 12 ?_;refine tkC 13 hH ?_;refine tkP 14 ?_;have hfz6:=HR6.out.frz HXI.out.1;have z0:=hH.1;have z1:=hH.2.1;have z2:=hH.2.2.1;have z3:=hH.2.2.2.1;have z4:=hH.2.2.2.2.1;have z5:=hH.2.2.2.2.2.1;have z6:=hH.2.2.2.2.2.2.1;refine kH (i:=15) (by kernel_rfl) (by kernel_rfl) rfl (fun K hK=>?_);go_simp;have p7:=HR6.out.put HXI.out.1 y;rw [← HT0.out] at p7;have o7:Only [g] w6 (((((((w6.setCell ⟨g,(r+1)*7,none⟩ (.int .i64 y.k)).setCell ⟨g,(r+1)*7+1,none⟩ (.string t0)).setCell ⟨g,(r+1)*7+2,none⟩ (.slice y.a0 y.l0 y.c0)).setCell ⟨g,(r+1)*7+3,none⟩ (.int .i64 y.n)).setCell ⟨g,(r+1)*7+4,none⟩ (.slice y.a1 y.l1 y.c1)).setCell ⟨g,(r+1)*7+5,none⟩ (.slice y.a2 y.l2 y.c2)).setCell ⟨g,(r+1)*7+6,none⟩ (.int .i64 y.p)):=by repeat' (first | with_reducible exact Only.refl _ _ | refine Only.setCell ?_ (.inl (by simp)) _)
      refine hK.out _ _ ?_;clear hK K z0 z1 z2 z3 z4 z5 z6 hfz6 hH;have HO7:=Hd (HO6.out.trans (o7.mono (by rw [HS0.out];simp [Value.ownBlock])) (fun k hk=>.inl hk));have HR7:=Hd p7;clear p7 o7 HR6 HO6;generalize (((((((w6.setCell ⟨g,(r+1)*7,none⟩ (.int .i64 y.k)).setCell ⟨g,(r+1)*7+1,none⟩ (.string t0)).setCell ⟨g,(r+1)*7+2,none⟩ (.slice y.a0 y.l0 y.c0)).setCell ⟨g,(r+1)*7+3,none⟩ (.int .i64 y.n)).setCell ⟨g,(r+1)*7+4,none⟩ (.slice y.a1 y.l1 y.c1)).setCell ⟨g,(r+1)*7+5,none⟩ (.slice y.a2 y.l2 y.c2)).setCell ⟨g,(r+1)*7+6,none⟩ (.int .i64 y.p))=w7 at HR7 HO7⊢;have hy7:((A'++[y]++x0 :: B++C).set (r+1) y)[r]?=some y:=by rw [List.getElem?_set_ne (by omega)];exact HXI.out.2
      obtain ⟨g7,cap7,e7,-,z0,z1,z2,z3,z4,z5,z6,-⟩:=HR7.out.at7 hy7;obtain rfl:g=g7:=by injection e7 with e7 _ _;injection e7 with e7;injection e7
      clear e7;have hfz7:=HR7.out.frz hy7;have p8:=HR7.out.put hy7 x0;rw [← HS0'.out,HRL.out,xC,← HRL.out] at p8;have o8:Only [g] w7 (((((((w7.setCell ⟨g,r*7,none⟩ (.int .i64 x0.k)).setCell ⟨g,r*7+1,none⟩ (.string s0)).setCell ⟨g,r*7+2,none⟩ (.slice x0.a0 x0.l0 x0.c0)).setCell ⟨g,r*7+3,none⟩ (.int .i64 x0.n)).setCell ⟨g,r*7+4,none⟩ (.slice x0.a1 x0.l1 x0.c1)).setCell ⟨g,r*7+5,none⟩ (.slice x0.a2 x0.l2 x0.c2)).setCell ⟨g,r*7+6,none⟩ (.int .i64 x0.p)):=by repeat' (first | with_reducible exact Only.refl _ _ | refine Only.setCell ?_ (.inl (by simp)) _)
      refine tkP 16 ?_;refine kH (i:=17) (by kernel_rfl) (by kernel_rfl) rfl (fun K hK=>?_);go_simp;refine hK.out _ _ ?_;clear hK K z0 z1 z2 z3 z4 z5 z6 hfz7 hy7;have HO8:=Hd (HO7.out.trans (o8.mono (by rw [HS0.out];simp [Value.ownBlock])) (fun k hk=>.inl hk));have HR8:=Hd p8;clear p8 o8 HR7 HO7;generalize (((((((w7.setCell ⟨g,r*7,none⟩ (.int .i64 x0.k)).setCell ⟨g,r*7+1,none⟩ (.string s0)).setCell ⟨g,r*7+2,none⟩ (.slice x0.a0 x0.l0 x0.c0)).setCell ⟨g,r*7+3,none⟩ (.int .i64 x0.n)).setCell ⟨g,r*7+4,none⟩ (.slice x0.a1 x0.l1 x0.c1)).setCell ⟨g,r*7+5,none⟩ (.slice x0.a2 x0.l2 x0.c2)).setCell ⟨g,r*7+6,none⟩ (.int .i64 x0.p))=w8 at HR8 HO8⊢;refine ph (by kernel_rfl) ?_ _;(go_wp2_with fail);refine ⟨⟨r,A',y :: B,by go_num,by omega,HRL,Hd (by have:=HAB.out;rw [List.length_append,List.length_singleton] at this;rw [List.length_cons];omega),Hd (HI.out.swap HP.out),HR8,HO8⟩,?_⟩;simp [intOf]
     ·have hcn:¬ c < 0:=by rw [hc];unfold cmpI;rw [if_neg hp];split<;>decide
      have HP:=Hd (HI.out.stop1 hp);have HPm:=Hd HI.out.perm;clear hc hp;refine tk 15 hH ?_;refine tk 16 hH ?_;refine wpAnyH_done (by kernel_rfl) ?_ _;clear hcn;(go_wp2_with fail);have HBL:=Hd (show (A'++[y]++x0 :: B).length=i+1 by have:=HAB.out;rw [List.length_append,List.length_cons];omega)
      go_roundg (n - (i+1))
      case measure=>omega
      case rel=>exact ⟨i+1,A'++[y]++x0 :: B++C,by omega,by omega,by omega,by go_num,HPm,Hd (by rw [List.take_left' HBL.out];exact HP.out),HR5,HO5⟩
  ·(go_wp2_with fail);go_end0;exact ⟨rfl,l,HR.out,HP.out,by have:=HQ.out;rwa [List.take_of_length_le (by rw [HLN.out];omega)] at this,by rw [← HS0.out];exact HO.out⟩
theorem tO {w:World} {base n:Nat} {v:Value} {ts:List Sx} (h:OR rS w base v ts) (hn:n=ts.length) (hnn:n≤16) :
  Calls Tryz.prog 117 #[v,.int .i64 (n:Int),.func (.func 101) #[] #[]] w (xD w base v ts):=by
 have KI:=Hd (tN h hn (by omega));clear hn h;have h20:¬ (20:Int)≤(n:Int):=by omega
 have h21:¬ (20:Int) < (n:Int):=by omega
 go_enter Tryz.func117,Tryz.ntmps117
 go_wp2_with fail
 go_loopw [7,8] (fun av bv wr=>av=.int .i64 0∧bv=.int .i64 20∧wr=w) (fun _ _ _=>0)
 case atStart=>exact ⟨rfl,rfl,rfl⟩
 case round=>
  obtain ⟨rfl,rfl,rfl⟩:=hrel;go_wp2_with fail
  refine KI.out.mono ?_;rintro en w1 ⟨rfl,hp⟩;have HP:=Hd hp;clear hp;go_wp2_with fail
  go_loopw [6] (fun av wr=>av=.int .i64 20∧wr=w1) (fun _ _=>0)
  case atStart=>exact ⟨rfl,rfl⟩
  case round=>
   obtain ⟨rfl,rfl⟩:=hrel;(go_wp2_with fail);go_end0;exact ⟨rfl,HP.out⟩
theorem kE {w:World} {base n:Nat} {v:Value} {ts:List Sx} (h:OR rS w base v ts) (hnn:ts.length≤16) :
  Calls Tryz.prog 100 #[v,.func (.func 101) #[] #[]] w (xD w base v ts):=by
 have KI:=tO h rfl hnn;obtain ⟨a,cap,rfl⟩:=h.shape;obtain ⟨n,hn⟩:∃ n,n=ts.length:=⟨_,rfl⟩
 rw [← hn] at KI⊢;have HK:=Hd KI;clear KI h hn
 go_enter Tryz.func100,Tryz.ntmps100
 go_wp2_with fail
 refine HK.out.mono ?_;rintro en w1 ⟨rfl,hp⟩;have HP:=Hd hp;clear hp;go_wp2_with fail
 go_end0;exact ⟨rfl,HP.out⟩
theorem xE {w:World} {base:Nat} {v:Value} {ts:List Sx} (h:OR rS w base v ts) (hnn:ts.length≤16) :
  Calls Tryz.prog 65 #[v] w fun en w'=>en=.returned v∧∃ ts',OR rS w' base v ts'∧ts'.Perm ts∧ts'.Pairwise LeX∧Only v.ownBlock.toList w w':=by
 have HK:=Hd (kE (n:=0) h hnn);obtain ⟨a,cap,rfl⟩:=h.shape;obtain ⟨n,hn⟩:∃ n,n=ts.length:=⟨_,rfl⟩
 rw [← hn] at HK⊢;clear h hn
 go_enter Tryz.func65,Tryz.ntmps65
 go_wp2_with fail
 refine HK.out.mono ?_;rintro en w1 ⟨rfl,hp⟩;have HP:=Hd hp;clear hp;go_wp2_with fail
 go_ret;exact ⟨rfl,HP.out⟩
end Go.Proofs.YtcebchffcmpfeaaGreat
