import Derived.Test.YtcebchffcmpfeaaGreatKat
import Derived.Test.YtcebchffcmpfeaaGreatGat
namespace Go.Proofs.YtcebchffcmpfeaaGreat
set_option linter.unusedVariables false
set_option linter.unusedSimpArgs false
set_option maxRecDepth 100000
set_option maxHeartbeats 16000000
open Go.RowKit Go.Maps
def opr (x:Sec):Int×Int:=
 if x=[43]∨x=[45]∨x=[42]∨x=[47]∨x=[37] then (1,1)
 else if x=[60]∨x=[60,61]∨x=[62]∨x=[62,61] then (1,2)
 else if x=[61,61]∨x=[33,61] then (0,2)
 else if x=[38,38]∨x=[124,124] then (2,2) else (0,0)
def E.kind:E→Int | .mk k _ _ _ _=>k
def E.pos:E→Int | .mk _ _ _ _ p=>p
def E.args:E→List E | .mk _ _ _ xs _=>xs
def E.name:E→Sec | .mk _ _ s _ _=>s
def CS.look (s:CS) (nm:Sec) (p:Int):Int×CS:=
 if nm=[116,114,117,101]∨nm=[102,97,108,115,101] then (2,s)
 else match s.known nm with
  | some t=>(t,s)
  | none=>(0,s.fail 9 p)
mutual
def aI:CS→E→Int×CS
 | s,.mk k _ nm xs p=>
  if k=2 then s.look nm p
  else if k=3 then (1,ay {s with cells:=wrap64 (s.cells+1) } 1 xs)
  else if k=5 then (1,ay s 1 xs)
  else if k=4 then (2,ay s 2 xs)
  else if k=6 then (if (opr nm).1=0 then ((opr nm).2,cW s xs) else ((opr nm).2,ay s (opr nm).1 xs))
  else (1,s)
def ay:CS→Int→List E→CS
 | s,_,[]=>s
 | s,want,e :: es=>ay (if (aI s e).1=want then (aI s e).2 else (aI s e).2.fail 10 e.pos) want es
def cW:CS→List E→CS
 | s,[]=>s
 | s,e :: es=>ay (aI s e).2 (aI s e).1 es
end
theorem uJ {x:Sec} (h:x∉oX):opr x=(0,0):=by
 unfold opr;simp only [oX,List.mem_cons,List.not_mem_nil,or_false,not_or] at h;simp [h]
theorem fX (s:ByteArray) (w:World) :
  Calls Tryz.prog 123 #[.string s] w fun e w'=>e=.returned (.tuple #[.int .i64 (opr s.data.toList).1,.int .i64 (opr s.data.toList).2])∧w=w':=by
 by_cases hm:s.data.toList∈oX
 ·simp only [oX,List.mem_cons,List.not_mem_nil,or_false] at hm;rcases hm with h | h | h | h | h | h | h | h | h | h | h | h | h<;>
  ·obtain rfl:=bk.2 h;clear h
   go_enter Tryz.func123,Tryz.ntmps123
   go_wp2
   go_ret2
   exact ⟨rfl,rfl⟩
 ·rw [uJ hm];have n1:=bg hm [124,124] (by decide);have n2:=bg hm [38,38] (by decide);have n3:=bg hm [60] (by decide);have n4:=bg hm [60,61] (by decide);have n5:=bg hm [62] (by decide);have n6:=bg hm [62,61] (by decide);have n7:=bg hm [61,61] (by decide);have n8:=bg hm [33,61] (by decide);have n9:=bg hm [43] (by decide);have n10:=bg hm [45] (by decide);have n11:=bg hm [42] (by decide);have n12:=bg hm [47] (by decide);have n13:=bg hm [37] (by decide);clear hm
  go_enter Tryz.func123,Tryz.ntmps123
  go_wp2
  go_ret2
  exact ⟨rfl,rfl⟩
theorem bQ {S:List Nat} {a w:World} {n:Nat} (h:Only S a w):Only S a (w.drewN n):=⟨h.os,h.tape,h.output,h.size,h.block⟩
section
variable {w w':World} {g b1 b2:Nat} {s:CS}
theorem uK (h:CK w g b1 b2 s) (k n p:Int) (nm:Sec) (hnm:nm.length≤65536) (a:Option Addr) (l c:Nat) :
  Calls Tryz.prog 124 #[.pointer (some ⟨g,0,none⟩),.agg #[.int .i64 k,.int .i64 n,.string (aj nm),.slice a l c,.int .i64 p]] w
   fun e w'=>e=.returned (.int .i64 (s.look nm p).1)∧CK w' g b1 b2 (s.look nm p).2∧Only [g] w w':=by
 obtain ⟨R,hR⟩:∃ R,R=s.look nm p:=⟨_,rfl⟩
 rw [← hR];obtain ⟨sn,hsn⟩:∃ sn,sn=aj nm:=⟨_,rfl⟩
 rw [← hsn];have hd:sn.data.toList=nm:=by rw [hsn];simp [aj]
 have H:=Hd h;have HR:=Hd hR;have HSN:=Hd hsn;clear h hR hsn
 by_cases ht:nm=[116,114,117,101]∨nm=[102,97,108,115,101]
 ·have hRR:R=(2,s):=by rw [HR.out];unfold CS.look;rw [if_pos ht]
  rw [hRR];clear hRR;rcases ht with ht | ht<;>
  ·obtain rfl:=bk.2 (hd.trans ht);clear hd ht
   go_enter Tryz.func124,Tryz.ntmps124
   (go_wp2_with fail);go_ret;exact ⟨rfl,H.out.quiet ((Only.refl [] w).alloc _),(Only.refl [g] w).alloc _⟩
 ·have n1:(sn.toList == [116,114,117,101])=false:=fy (fun e=>ht (.inl (hd.symm.trans e)));have n2:(sn.toList == [102,97,108,115,101])=false:=fy (fun e=>ht (.inr (hd.symm.trans e)));have hRR:R=match s.known nm with | some t=>(t,s) | none=>(0,s.fail 9 p):=by rw [HR.out];unfold CS.look;rw [if_neg ht]
  have HRR:=Hd hRR;clear hRR hd ht
  go_enter Tryz.func124,Tryz.ntmps124
  go_upto_region 3 with (fail)
  have o1:=(Only.refl [] w).alloc (.cells #[.int .i64 k,.int .i64 n,.string sn,.slice a l c,.int .i64 p] 95);have hX:=ag w (.cells #[.int .i64 k,.int .i64 n,.string sn,.slice a l c,.int .i64 p] 95);have hK:=H.out.quiet o1;generalize w.alloc (.cells #[.int .i64 k,.int .i64 n,.string sn,.slice a l c,.int .i64 p] 95)=w1 at o1 hX hK⊢;obtain ⟨fv,h1,h2⟩:=hK.row;obtain ⟨cn,hkn⟩:=hK.known;have c0:w1.cell? ⟨g,0,none⟩=some (.map (some b1)):=ab 0 h1;have x2:w1.cell? ⟨w.heap.size,2,none⟩=some (.string sn):=ab 2 hX;have x4:w1.cell? ⟨w.heap.size,4,none⟩=some (.int .i64 p):=ab 4 hX;have hl:∀ n,(Instr.lookup 120 (.map (some b1)) (.string sn) true).run Tryz.prog (w1.drewN n)=.ok (.tuple #[.int .i64 ((s.known nm).getD 0),.bool (s.known nm).isSome]) (w1.drewN n):=fun n=>by
   rw [HSN.out];exact (hkn.kept (bQ (Only.refl [] w1)) (by simp)).look Tryz.underlying120 Tryz.underlying156 uE hnm
  have HK:=Hd hK;have HO1:=Hd o1;clear h1 h2 hkn hX hK o1 n1 n2;cases hm:s.known nm with
  | some t=>
   rw [hm] at hl HRR;clear hm
   go_quiet (fail)
   (go_wp2_with fail);go_ret;rw [show R=(t,s) from HRR.out];exact ⟨rfl,HK.out.quiet (bQ (Only.refl [] w1)),(HO1.out.trans (bQ (Only.refl [] w1)) (by simp)).mono (by simp)⟩
  | none=>
   rw [hm] at hl HRR;clear hm
   go_quiet (fail)
   (go_wp2_with fail);have hk2:=HK.out.quiet (bQ (n:=nq) (Only.refl [] w1));have ho2:=HO1.out.trans (bQ (n:=nq) (Only.refl [] w1)) (by simp);refine (cS hk2 9 p).mono ?_;rintro e w5 ⟨rfl,hk5,ho5⟩;have HK5:=Hd (And.intro hk5 ((ho2.mono (T:=[g]) (by simp)).trans ho5 (fun k hk=>.inl hk)));clear hk5 ho5 hk2 ho2;(go_wp2_with fail);go_ret;rw [show R=(0,s.fail 9 p) from HRR.out];exact ⟨rfl,HK5.out.1,HK5.out.2⟩
end
mutual
def aC:E→Nat | .mk _ _ _ xs _=>1+aq xs
def aq:List E→Nat | []=>0 | e :: es=>aC e+aq es
end
mutual
def okE:E→Prop | .mk k _ nm xs _=>nm.length≤65536∧(k=6→xs≠[])∧okL xs
def okL:List E→Prop | []=>True | e :: es=>okE e∧okL es
end
theorem uL:∀ {xs:List E} {j:Nat} {e:E},okL xs→xs[j]?=some e→okE e
 | [],j,e,_,h=>by simp at h
 | x :: xs,0,e,h,hj=>by unfold okL at h;simp at hj;subst hj;exact h.1
 | x :: xs,j+1,e,h,hj=>by unfold okL at h;exact uL h.2 (by simpa using hj)
theorem mS:∀ {xs:List E} {j:Nat} {e:E},xs[j]?=some e→aC e≤aq xs
 | [],j,e,h=>by simp at h
 | x :: xs,0,e,hj=>by simp at hj;subst hj;unfold aq;omega
 | x :: xs,j+1,e,hj=>by have:=mS (xs:=xs) (j:=j) (e:=e) (by simpa using hj);unfold aq;omega
theorem pE {s:CS} {want:Int} {xs:List E} {j:Nat} {e:E} (hj:xs[j]?=some e) :
  ay s want (xs.drop j)=ay (if (aI s e).1=want then (aI s e).2 else (aI s e).2.fail 10 e.pos) want (xs.drop (j+1)):=by
 obtain ⟨hlt,rfl⟩:=List.getElem?_eq_some_iff.1 hj;rw [List.drop_eq_getElem_cons hlt]
 conv=>lhs;unfold ay
def EsO (w:World) (B:Nat→Prop) (gr off:Nat) (xs:List E):Prop:=∀ j e,xs[j]?=some e→∃ cs,EV w B e cs∧∀ c u,cs[c]?=some u→w.cell? ⟨gr,off+j*5+c,none⟩=some u
theorem EsAt.eso {w:World} {B:Nat→Prop} {gr:Nat}:∀ (xs:List E) (i off:Nat),off=i*5→EsAt w B gr i xs→EsO w B gr off xs
 | [],i,off,_,_=>fun j e h=>by simp at h
 | x :: xs,i,off,ho,h=>fun j e hj=>by
  unfold EsAt at h;obtain ⟨⟨cs,h1,h2⟩,h3⟩:=h;cases j with
  | zero=>
   simp at hj;subst hj;refine ⟨cs,h1,fun c u hc=>?_⟩;have hlt:c < 5:=by have:=(List.getElem?_eq_some_iff.1 hc).1;rw [h1.len] at this;exact this
   rw [← hc,← h2 c hlt,ho];simp
  | succ j=>
   obtain ⟨cs',e1,e2⟩:=EsAt.eso xs (i+1) ((i+1)*5) rfl h3 j e (by simpa using hj);refine ⟨cs',e1,fun c u hc=>?_⟩;have:=e2 c u hc;rw [show (i+1)*5+j*5+c=off+(j+1)*5+c by omega] at this;exact this
theorem EsO.kept {w w':World} {S:List Nat} {B:Nat→Prop} {gr off:Nat} {xs:List E} (h:EsO w B gr off xs) (ho:Only S w w') (hs:∀ k∈S,¬ B k) (hg:B gr):EsO w' B gr off xs:=fun j e hj=>by
 obtain ⟨cs,h1,h2⟩:=h j e hj;exact ⟨cs,EV.kept ho hs (fun _ h=>h) e cs h1,fun c u hc=>ac ho (h2 c u hc) (fun hk=>hs _ hk hg)⟩
def EsW (w:World) (B:Nat→Prop) (v:Value) (xs:List E):Prop:=
 ∃ (a:Option Addr) (cap:Nat),v=.slice a xs.length cap∧(xs=[]∨∃ gr off,a=some ⟨gr,off,none⟩∧B gr∧EsO w B gr off xs)
theorem EsV.esw {w:World} {B:Nat→Prop} {v:Value} {xs:List E} (h:EsV w B v xs):EsW w B v xs:=by
 obtain ⟨a,cap,rfl,_,h2⟩:=h;refine ⟨a,cap,rfl,h2.imp id ?_⟩;rintro ⟨gr,rfl,hb,h3⟩;exact ⟨gr,0,rfl,hb,EsAt.eso xs 0 0 rfl h3⟩
def kM (N:Nat):Prop:=∀ (e:E),aC e≤N→∀ (w:World) (g b1 b2:Nat) (s:CS) (cs:List Value) (B:Nat→Prop),CK w g b1 b2 s→okE e→EV w B e cs→¬ B g→
 Calls Tryz.prog 113 #[.pointer (some ⟨g,0,none⟩),.agg cs.toArray] w fun en w'=>en=.returned (.int .i64 (aI s e).1)∧CK w' g b1 b2 (aI s e).2∧Only [g] w w'
def lQ (N:Nat):Prop:=∀ (xs:List E),aq xs≤N→∀ (w:World) (g b1 b2:Nat) (s:CS) (v:Value) (B:Nat→Prop) (want:Int),CK w g b1 b2 s→okL xs→EsW w B v xs→¬ B g→
 Calls Tryz.prog 95 #[.pointer (some ⟨g,0,none⟩),.int .i64 want,v] w fun en w'=>en=.returned (.tuple #[])∧CK w' g b1 b2 (ay s want xs)∧Only [g] w w'
theorem jn (N:Nat) (hNN:N≤1000000) (IE:kM N):lQ N:=by
 intro xs hN w g b1 b2 s v B want h hok hv hB;obtain ⟨a,cap,rfl,hx⟩:=hv;have hlen:xs.length≤aq xs:=by
  clear hN hok hx
  induction xs with
  | nil=>exact Nat.le_refl _
  | cons e es ih=>
   have:1≤aC e:=by cases e;unfold aC;omega
   unfold aq;simp;omega
 have H:=Hd h;have HX:=Hd hx;have HOK:=Hd hok;clear h hx hok
 go_enter Tryz.func95,Tryz.ntmps95
 go_wp2_with fail
 obtain ⟨n,hn⟩:∃ n,n=xs.length:=⟨_,rfl⟩
 rw [← hn] at hlen⊢;have HN:=Hd hn;clear hn
 go_loopw [10] (fun ix wr=>∃ (j:Nat) (sj:CS),j≤n∧ix=.int .i64 (j:Int)∧Hid (ay s want xs=ay sj want (xs.drop j))∧Hid (CK wr g b1 b2 sj)∧Hid (Only [g] w wr)) (fun ix _=>n - (intOf ix).toNat)
 case atStart=>exact ⟨0,s,Nat.zero_le _,rfl,Hd (by rw [List.drop_zero]),H,Hd (Only.refl _ _)⟩
 case round=>
  obtain ⟨j,sj,hjn,rfl,HT,HK,HO⟩:=hrel
  by_cases hlt:j < n
  ·have hlt':(j:Int) < (n:Int):=by omega
   have j0:(0:Int)≤(j:Int):=by omega
   obtain ⟨e,he⟩:∃ e,xs[j]?=some e:=⟨_,List.getElem?_eq_getElem (by rw [← HN.out];exact hlt)⟩
   obtain ⟨gr,off,rfl,hgr,hes⟩:∃ gr off,a=some ⟨gr,off,none⟩∧B gr∧EsO w B gr off xs:=by
    rcases HX.out with hx | hx
    ·rw [hx] at he;simp at he
    ·exact hx
   obtain ⟨cs,hev,hcs⟩:=hes.kept HO.out (by simpa using hB) hgr j e he;obtain ⟨k,nn,nm,ys,p⟩:=e;have hev':=hev;unfold EV at hev';obtain ⟨a',cap',rfl,-,-⟩:=hev';have x0:wr.cell? ⟨gr,off+j*5,none⟩=some (.int .i64 k):=hcs 0 _ rfl;have x1:wr.cell? ⟨gr,off+j*5+1,none⟩=some (.int .i64 nn):=hcs 1 _ rfl;have x2:wr.cell? ⟨gr,off+j*5+2,none⟩=some (.string (aj nm)):=hcs 2 _ rfl;have x3:wr.cell? ⟨gr,off+j*5+3,none⟩=some (.slice a' ys.length cap'):=hcs 3 _ rfl;have x4:wr.cell? ⟨gr,off+j*5+4,none⟩=some (.int .i64 p):=hcs 4 _ rfl;obtain ⟨ee,hee⟩:∃ ee,ee=E.mk k nn nm ys p:=⟨_,rfl⟩
   obtain ⟨sn,hsn⟩:∃ sn,sn=aj nm:=⟨_,rfl⟩
   obtain ⟨L,hL⟩:∃ L,L=ys.length:=⟨_,rfl⟩
   rw [← hee] at he hev;rw [← hsn] at x2 hev;rw [← hL] at x3 hev;have HEV:=Hd hev;have HE:=Hd he;have HP:=Hd (show ee.pos=p by rw [hee];rfl);have hsz:aC ee≤N:=Nat.le_trans (mS he) hN;have hoke:=uL HOK.out he;have HOKE:=Hd hoke;clear hev hcs he hee hsn hL hes hoke;(go_upto_region 3 with (fail));obtain ⟨w5,q9,o5,hY,-⟩:=nb wr (.cells #[.int .i64 k,.int .i64 nn,.string sn,.slice a' L cap',.int .i64 p] 95);rw [← q9];clear q9;have y0:w5.cell? ⟨wr.heap.size,0,none⟩=some (.int .i64 k):=ab 0 hY;have y1:w5.cell? ⟨wr.heap.size,1,none⟩=some (.int .i64 nn):=ab 1 hY;have y2:w5.cell? ⟨wr.heap.size,2,none⟩=some (.string sn):=ab 2 hY;have y3:w5.cell? ⟨wr.heap.size,3,none⟩=some (.slice a' L cap'):=ab 3 hY;have y4:w5.cell? ⟨wr.heap.size,4,none⟩=some (.int .i64 p):=ab 4 hY;have K1:=IE ee hsz w5 g b1 b2 sj _ B (HK.out.quiet o5) HOKE.out (HEV.out.quiet o5) hB;have hgw:g≠wr.heap.size:=by have:=HK.out.g_lt;omega
   have HY:=Hd hY;have HO5:=Hd (HO.out.trans o5 (by simp));obtain ⟨t,ht⟩:∃ t,t=(aI sj ee).1:=⟨_,rfl⟩
   obtain ⟨s1,hs1⟩:∃ s1,s1=(aI sj ee).2:=⟨_,rfl⟩
   rw [← ht,← hs1] at K1;have hstep:ay s want xs=ay (if t=want then s1 else s1.fail 10 p) want (xs.drop (j+1)):=by
    rw [HT.out,pE HE.out,← ht,← hs1,HP.out]
   have HST:=Hd hstep;clear o5 hY x0 x1 x2 x3 x4 hstep ht hs1;(go_wp2_with fail);refine K1.mono ?_;rintro en w6 ⟨rfl,hk6,ho6⟩;have HK6:=Hd hk6;have HO6:=Hd (HO5.out.trans ho6 (fun k hk=>.inl hk));have HY6:=Hd (ho6.heap HY.out (by simpa using fun e=>hgw e.symm));clear hk6 ho6 K1 y0 y1 y2 y3 y4
   by_cases heq:t=want
   ·subst heq;rw [if_pos rfl] at HST;(go_wp2_with fail);refine ⟨⟨j+1,s1,by omega,rfl,HST,HK6,HO6⟩,?_⟩;simp [intOf];omega
   ·rw [if_neg heq] at HST;have hne:(t != want)=true:=by simpa using heq
    have y4:w6.cell? ⟨wr.heap.size,4,none⟩=some (.int .i64 p):=ab 4 HY6.out;(go_wp2_with fail);refine (cS HK6.out 10 p).mono ?_;rintro en w7 ⟨rfl,hk7,ho7⟩;have HK7:=Hd hk7;have HO7:=Hd (HO6.out.trans ho7 (fun k hk=>.inl hk));clear hk7 ho7 y4;(go_wp2_with fail);refine ⟨⟨j+1,_,by omega,rfl,HST,HK7,HO7⟩,?_⟩;simp [intOf];omega
  ·obtain rfl:j=n:=by omega
   have hT:=HT.out;have hR:ay s want xs=sj:=by
    rw [hT,HN.out,List.drop_length];unfold ay;rfl
   have HR:=Hd hR;clear hT hR;(go_wp2_with fail);go_end0;rw [HR.out];exact ⟨rfl,HK.out,HO.out⟩
theorem kN:Tryz.prog.underlying 57=some (.slice (Tryz.prog.elem 57)):=by kernel_rfl
theorem size_ex (w:World):(sizeOf (Tryz.prog.elem 57)).run Tryz.prog w=.ok 5 w:=by kernel_rfl
theorem sc {a:Option Addr} (L cap:Nat) (hc:L+1≤cap) (w:World) :
  (Instr.sliceAt 57 (.slice a (L+1) cap) (some (.int .i64 1)) none none).run Tryz.prog w=.ok (.slice (if cap=1 then a else a.map (·.add (1*5))) L (cap - 1)) w:=by
 rw [run_sliceAt_slice w _ _ _ _ _ kN,run_slice_l w _ _ _ _ kN .i64 1 (by omega) (by omega),size_ex];simp [Result.andThen,sliced]
theorem pF (N:Nat) (IT:lQ N) (IE:kM N) {w:World} {g b1 b2:Nat} {s:CS} {B:Nat→Prop} {n p:Int} {nm:Sec} {ys:List E} {a:Option Addr} {cap:Nat} (h:CK w g b1 b2 s) (hnm:nm.length≤65536) (hne:ys≠[]) (hok:okL ys) (hsz:aq ys≤N)
  (hcap:ys.length≤cap) (hx:ys=[]∨∃ gr,a=some ⟨gr,0,none⟩∧B gr∧EsAt w B gr 0 ys) (hB:¬ B g) :
  Calls Tryz.prog 125 #[.pointer (some ⟨g,0,none⟩),.agg #[.int .i64 6,.int .i64 n,.string (aj nm),.slice a ys.length cap,.int .i64 p]] w
   fun en w'=>en=.returned (.int .i64 (opr nm).2)∧CK w' g b1 b2 (if (opr nm).1=0 then cW s ys else ay s (opr nm).1 ys)∧Only [g] w w':=by
 obtain ⟨gr,rfl,hgr,hes⟩:∃ gr,a=some ⟨gr,0,none⟩∧B gr∧EsAt w B gr 0 ys:=by
  rcases hx with hx | hx
  ·exact absurd hx hne
  ·exact hx
 have heo:=EsAt.eso ys 0 0 rfl hes;obtain ⟨e1,es,rfl⟩:∃ e1 es,ys=e1 :: es:=by
  cases ys with
  | nil=>exact absurd rfl hne
  | cons e1 es=>exact ⟨e1,es,rfl⟩
 obtain ⟨cs,hev,hcs⟩:=heo 0 e1 rfl;obtain ⟨k1,n1,nm1,ys1,p1⟩:=e1;have hev':=hev;unfold EV at hev';obtain ⟨a1,cap1,rfl,-,-⟩:=hev';obtain ⟨ee,hee⟩:∃ ee,ee=E.mk k1 n1 nm1 ys1 p1:=⟨_,rfl⟩
 rw [← hee] at hok hsz hev hcap heo⊢;have hge:gr < w.heap.size:=World.block_lt_of_cell? _ _ (hcs 0 _ rfl);obtain ⟨sn,hsn⟩:∃ sn,sn=aj nm:=⟨_,rfl⟩
 obtain ⟨sn1,hsn1⟩:∃ sn1,sn1=aj nm1:=⟨_,rfl⟩
 obtain ⟨L1,hL1⟩:∃ L1,L1=ys1.length:=⟨_,rfl⟩
 obtain ⟨L,hL⟩:∃ L,L=es.length:=⟨_,rfl⟩
 have z0:w.cell? ⟨gr,0,none⟩=some (.int .i64 k1):=hcs 0 _ rfl;have z1:w.cell? ⟨gr,1,none⟩=some (.int .i64 n1):=hcs 1 _ rfl;have z2:w.cell? ⟨gr,2,none⟩=some (.string (aj nm1)):=hcs 2 _ rfl;have z3:w.cell? ⟨gr,3,none⟩=some (.slice a1 ys1.length cap1):=hcs 3 _ rfl;have z4:w.cell? ⟨gr,4,none⟩=some (.int .i64 p1):=hcs 4 _ rfl;rw [← hsn1] at z2 hev;rw [← hL1] at z3 hev;rw [show (ee :: es).length=L+1 by simp [hL]] at hcap⊢;rw [← hsn];have KO:=fX sn;rw [show sn.data.toList=nm by rw [hsn];simp [aj]] at KO;have HZ:=Hd (And.intro z0 (And.intro z1 (And.intro z2 (And.intro z3 z4))));have H:=Hd h;have HEV:=Hd hev;have HEO:=Hd heo;have HOK:=Hd hok;have HLL:=Hd hL;have HSZ:=Hd hsz;obtain ⟨pa,hpa⟩:∃ pa,pa=(opr nm).1:=⟨_,rfl⟩
 obtain ⟨wh,hwh⟩:∃ wh,wh=(opr nm).2:=⟨_,rfl⟩
 rw [← hpa,← hwh] at KO;rw [← hpa,← hwh];obtain ⟨R,hR⟩:∃ R,R=if pa=0 then cW s (ee :: es) else ay s pa (ee :: es):=⟨_,rfl⟩
 rw [← hR];have HR:=Hd hR;clear hR;clear h hes hev heo hok hsz hcs hx hne hsn hsn1 hL1 hL z0 z1 z2 z3 z4 hee;have HKO:=Hd KO;clear KO hwh hpa
 go_enter Tryz.func125,Tryz.ntmps125
 go_wp2_with fail
 obtain ⟨w1,q9,o1,hY,-⟩:=nb w (.cells #[.int .i64 6,.int .i64 n,.string sn,.slice (some ⟨gr,0,none⟩) (L+1) cap,.int .i64 p] 95);rw [← q9];clear q9;refine (HKO.out w1).mono ?_;rintro en w' ⟨rfl,rfl⟩;have y3:w1.cell? ⟨w.heap.size,3,none⟩=some (.slice (some ⟨gr,0,none⟩) (L+1) cap):=ab 3 hY;have HO1:=Hd o1;have HY:=Hd hY
 by_cases hz:pa=0
 ·subst hz;have hRR:R=ay (aI s ee).2 (aI s ee).1 es:=by
   rw [HR.out,if_pos rfl];unfold cW;rfl
  have HRR:=Hd hRR;have hsl:=fun W=>sc (a:=some ⟨gr,0,none⟩) L cap (by omega) W;clear hRR;have z0:w1.cell? ⟨gr,0,none⟩=some (.int .i64 k1):=ac o1 HZ.out.1 (by simp);have z1:w1.cell? ⟨gr,1,none⟩=some (.int .i64 n1):=ac o1 HZ.out.2.1 (by simp);have z2:w1.cell? ⟨gr,2,none⟩=some (.string sn1):=ac o1 HZ.out.2.2.1 (by simp);have z3:w1.cell? ⟨gr,3,none⟩=some (.slice a1 L1 cap1):=ac o1 HZ.out.2.2.2.1 (by simp);have z4:w1.cell? ⟨gr,4,none⟩=some (.int .i64 p1):=ac o1 HZ.out.2.2.2.2 (by simp);have K1:=IE ee (by have:=HSZ.out;unfold aq at this;omega) w1 g b1 b2 s _ B (H.out.quiet o1) (by have:=HOK.out;unfold okL at this;exact this.1) (HEV.out.quiet o1) hB;have hL0:(0:Int) < (L:Int)+1:=by omega
  clear o1 hY;go_wp2_with fail
  refine K1.mono ?_;rintro en w2 ⟨rfl,hk2,ho2⟩;have hR2:EsW w2 B (.slice (if cap=1 then some ⟨gr,0,none⟩ else (some (⟨gr,0,none⟩:Addr)).map (·.add (1*5))) L (cap - 1)) es:=by
   refine ⟨_,_,by rw [HLL.out],?_⟩
   by_cases h1:cap=1
   ·left;have:es.length=0:=by rw [← HLL.out];omega
    exact List.eq_nil_of_length_eq_zero this
   ·right;refine ⟨gr,5,by rw [if_neg h1];rfl,hgr,fun j e hj=>?_⟩;obtain ⟨cs',e1,e2⟩:=(HEO.out.kept (HO1.out.mono (T:=[g]) (by simp)) (by simpa using hB) hgr).kept ho2 (by simpa using hB) hgr (j+1) e (by simpa using hj);refine ⟨cs',e1,fun c u hc=>?_⟩;have:=e2 c u hc;rw [show 0+(j+1)*5+c=5+j*5+c by omega] at this;exact this
  have y3':w2.cell? ⟨w.heap.size,3,none⟩=some (.slice (some ⟨gr,0,none⟩) (L+1) cap):=ac ho2 y3 (by have:=H.out.g_lt;simp;omega);have K2:=IT es (by have:=HSZ.out;unfold aq at this;omega) w2 g b1 b2 _ _ B (aI s ee).1 hk2 (by have:=HOK.out;unfold okL at this;exact this.2) hR2 hB;have HO2:=Hd ((HO1.out.mono (T:=[g]) (by simp)).trans ho2 (fun k hk=>.inl hk));generalize (if cap=1 then some ⟨gr,0,none⟩ else (some (⟨gr,0,none⟩:Addr)).map (·.add (1*5)))=ar at hsl K2;clear hR2 hk2 ho2 z0 z1 z2 z3 z4 K1;obtain ⟨t,ht⟩:∃ t,t=(aI s ee).1:=⟨_,rfl⟩
  rw [← ht] at K2 HRR⊢;have HK2:=Hd K2;clear K2 ht;go_wp2_with fail
  refine HK2.out.mono ?_;rintro en w3 ⟨rfl,hk3,ho3⟩;have HK3:=Hd (And.intro hk3 (HO2.out.trans ho3 (fun k hk=>.inl hk)));clear hk3 ho3;go_wp2_with fail
  go_ret;rw [HRR.out];exact ⟨rfl,HK3.out.1,HK3.out.2⟩
 ·have hRR:R=ay s pa (ee :: es):=by rw [HR.out,if_neg hz]
  have HRR:=Hd hRR;have hz':(pa == 0)=false:=by simpa using hz
  have K2:=IT (ee :: es) HSZ.out w1 g b1 b2 s (.slice (some ⟨gr,0,none⟩) (L+1) cap) B pa (H.out.quiet HO1.out) HOK.out ⟨some ⟨gr,0,none⟩,cap,by simp [HLL.out],.inr ⟨gr,0,rfl,hgr,HEO.out.kept HO1.out (by simp) hgr⟩⟩ hB;have HK2:=Hd K2;clear hRR K2;go_wp2_with fail
  refine HK2.out.mono ?_;rintro en w3 ⟨rfl,hk3,ho3⟩;have HK3:=Hd (And.intro hk3 ((HO1.out.mono (T:=[g]) (by simp)).trans ho3 (fun k hk=>.inl hk)));clear hk3 ho3;go_wp2_with fail
  go_ret;rw [HRR.out];exact ⟨rfl,HK3.out.1,HK3.out.2⟩
theorem sd (N:Nat) (IT:lQ N) (IE:kM N):kM (N+1):=by
 intro e hN w g b1 b2 s cs B h hok hev hB;obtain ⟨k,n,nm,ys,p⟩:=e;unfold okE at hok;obtain ⟨hnm,hne,hokl⟩:=hok;have hsz:aq ys≤N:=by unfold aC at hN;omega
 unfold EV at hev;obtain ⟨a,cap,rfl,hcap,hx⟩:=hev;obtain ⟨R,hR⟩:∃ R,R=aI s (.mk k n nm ys p):=⟨_,rfl⟩
 rw [← hR];unfold aI at hR;obtain ⟨sn,hsn⟩:∃ sn,sn=aj nm:=⟨_,rfl⟩
 obtain ⟨L,hL⟩:∃ L,L=ys.length:=⟨_,rfl⟩
 have H:=Hd h;have HX:=Hd hx;have HSN:=Hd hsn;have HL:=Hd hL;have HOK:=Hd hokl;rw [← hsn,← hL];have o1:Only [] w (w.alloc (.cells #[.int .i64 k,.int .i64 n,.string sn,.slice a L cap,.int .i64 p] 95)):=(Only.refl _ _).alloc _;have HY:=Hd (ag w (.cells #[.int .i64 k,.int .i64 n,.string sn,.slice a L cap,.int .i64 p] 95));have hgw:w.heap.size≠g:=by have:=h.g_lt;omega
 have hv:EsW (w.alloc (.cells #[.int .i64 k,.int .i64 n,.string sn,.slice a L cap,.int .i64 p] 95)) B (.slice a L cap) ys:=by
  refine ⟨a,cap,by rw [hL],hx.imp id ?_⟩;rintro ⟨gr,rfl,hb,h3⟩;exact ⟨gr,0,rfl,hb,(EsAt.eso ys 0 0 rfl h3).kept o1 (by simp) hb⟩
 obtain ⟨w1,hw1⟩:∃ w1,w1=w.alloc (.cells #[.int .i64 k,.int .i64 n,.string sn,.slice a L cap,.int .i64 p] 95):=⟨_,rfl⟩
 rw [← hw1] at o1 HY hv;have HO1:=Hd o1;have HV:=Hd hv;have HW:=Hd hw1;have HH:=Hd (h.quiet o1);clear h hx hv hsn hL hokl hN o1 hw1
 by_cases h2:k=2
 ·subst h2;have K:=uK HH.out 2 n p nm hnm a L cap;rw [← HSN.out] at K;have hRR:R=s.look nm p:=by rw [hR,if_pos rfl]
  have HRR:=Hd hRR;clear hR hRR
  go_enter Tryz.func113,Tryz.ntmps113
  go_upto_region 3 with (fail)
  rw [← HW.out];have y0:w1.cell? ⟨w.heap.size,0,none⟩=some (.int .i64 2):=ab 0 HY.out;have y1:w1.cell? ⟨w.heap.size,1,none⟩=some (.int .i64 n):=ab 1 HY.out;have y2:w1.cell? ⟨w.heap.size,2,none⟩=some (.string sn):=ab 2 HY.out;have y3:w1.cell? ⟨w.heap.size,3,none⟩=some (.slice a L cap):=ab 3 HY.out;have y4:w1.cell? ⟨w.heap.size,4,none⟩=some (.int .i64 p):=ab 4 HY.out;go_wp2_with fail
  refine K.mono ?_;rintro en w3 ⟨rfl,hk3,ho3⟩;have HK3:=Hd (And.intro hk3 ((HO1.out.mono (T:=[g]) (by simp)).trans ho3 (fun k hk=>.inl hk)));clear hk3 ho3;go_wp2_with fail
  go_ret;rw [HRR.out];exact ⟨rfl,HK3.out.1,HK3.out.2⟩
 ·by_cases h3:k=3
  ·subst h3;have hRR:R=(1,ay {s with cells:=wrap64 (s.cells+1) } 1 ys):=by rw [hR,if_neg (by decide),if_pos rfl]
   have HRR:=Hd hRR;clear hR hRR;obtain ⟨fv,h1,h2⟩:=HH.out.row;have c11:w1.cell? ⟨g,11,none⟩=some (.int .i64 s.cells):=ab 11 h1;have g11:=ae 11 h1;have H1:=Hd h1;have H2:=Hd h2;have y3:w1.cell? ⟨w.heap.size,3,none⟩=some (.slice a L cap):=ab 3 HY.out;clear h1 h2
   go_enter Tryz.func113,Tryz.ntmps113
   (go_upto_region 5 with (fail));rw [← HW.out];(go_upto_region 6 with (fail));have oz:Only [g] w1 (w1.setCell ⟨g,11,none⟩ (.int .i64 (wrap64 (s.cells+1)))):=oc;have hk:CK (w1.setCell ⟨g,11,none⟩ (.int .i64 (wrap64 (s.cells+1)))) g b1 b2 {s with cells:=wrap64 (s.cells+1) }:=HH.out.turn oz (af (i:=11) _ H1.out) (H2.out.kept oz (fun k hk=>HH.out.no_flt k (by simp only [List.mem_singleton] at hk;simp [hk]))) rfl rfl;generalize w1.setCell ⟨g,11,none⟩ (.int .i64 (wrap64 (s.cells+1)))=w2 at oz hk⊢;have hv2:EsW w2 B (.slice a L cap) ys:=by
    obtain ⟨a',cap',e1,e2⟩:=HV.out;refine ⟨a',cap',e1,e2.imp id ?_⟩;rintro ⟨gr,off,e3,e4,e5⟩;exact ⟨gr,off,e3,e4,e5.kept oz (by simpa using hB) e4⟩
   have K:=IT ys hsz w2 g b1 b2 _ _ B 1 hk HOK.out hv2 hB;have y3':w2.cell? ⟨w.heap.size,3,none⟩=some (.slice a L cap):=ac oz y3 (by simpa using hgw);replace HO1:=Hd ((HO1.out.mono (T:=[g]) (by simp)).trans oz (fun k hk=>.inl hk));clear c11 g11 y3 oz hk hv2;(go_wp2_with fail);refine K.mono ?_;rintro en w3 ⟨rfl,hk3,ho3⟩;have HK3:=Hd (And.intro hk3 (HO1.out.trans ho3 (fun k hk=>.inl hk)));clear hk3 ho3;(go_wp2_with fail);go_ret;rw [HRR.out];exact ⟨rfl,HK3.out.1,HK3.out.2⟩
  ·by_cases h5:k=5
   ·subst h5;have hRR:R=(1,ay s 1 ys):=by rw [hR,if_neg (by decide),if_neg (by decide),if_pos rfl]
    have HRR:=Hd hRR;have K:=IT ys hsz w1 g b1 b2 s _ B 1 HH.out HOK.out HV.out hB;have y3:w1.cell? ⟨w.heap.size,3,none⟩=some (.slice a L cap):=ab 3 HY.out;clear hR hRR
    go_enter Tryz.func113,Tryz.ntmps113
    (go_upto_region 8 with (fail));rw [← HW.out];(go_wp2_with fail);refine K.mono ?_;rintro en w3 ⟨rfl,hk3,ho3⟩;have HK3:=Hd (And.intro hk3 ((HO1.out.mono (T:=[g]) (by simp)).trans ho3 (fun k hk=>.inl hk)));clear hk3 ho3;(go_wp2_with fail);go_ret;rw [HRR.out];exact ⟨rfl,HK3.out.1,HK3.out.2⟩
   ·by_cases h4:k=4
    ·subst h4;have hRR:R=(2,ay s 2 ys):=by rw [hR,if_neg (by decide),if_neg (by decide),if_neg (by decide),if_pos rfl]
     have HRR:=Hd hRR;have K:=IT ys hsz w1 g b1 b2 s _ B 2 HH.out HOK.out HV.out hB;have y3:w1.cell? ⟨w.heap.size,3,none⟩=some (.slice a L cap):=ab 3 HY.out;clear hR hRR
     go_enter Tryz.func113,Tryz.ntmps113
     (go_upto_region 10 with (fail));rw [← HW.out];(go_wp2_with fail);refine K.mono ?_;rintro en w3 ⟨rfl,hk3,ho3⟩;have HK3:=Hd (And.intro hk3 ((HO1.out.mono (T:=[g]) (by simp)).trans ho3 (fun k hk=>.inl hk)));clear hk3 ho3;(go_wp2_with fail);go_ret;rw [HRR.out];exact ⟨rfl,HK3.out.1,HK3.out.2⟩
    ·by_cases h6:k=6
     ·subst h6;have K:=pF N IT IE (w:=w1) (n:=n) (p:=p) (a:=a) (cap:=cap) HH.out hnm (hne rfl) HOK.out hsz hcap (HX.out.imp id (fun ⟨gr,e1,e2,e3⟩=>⟨gr,e1,e2,EsAt.kept HO1.out (by simp) (fun _ h=>h) e2 0 ys e3⟩)) hB;rw [← HSN.out,← HL.out] at K;have hRR:R=((opr nm).2,if (opr nm).1=0 then cW s ys else ay s (opr nm).1 ys):=by
       rw [hR,if_neg (by decide),if_neg (by decide),if_neg (by decide),if_neg (by decide),if_pos rfl];split<;>rfl
      have HRR:=Hd hRR;have y0:w1.cell? ⟨w.heap.size,0,none⟩=some (.int .i64 6):=ab 0 HY.out;have y1:w1.cell? ⟨w.heap.size,1,none⟩=some (.int .i64 n):=ab 1 HY.out;have y2:w1.cell? ⟨w.heap.size,2,none⟩=some (.string sn):=ab 2 HY.out;have y3:w1.cell? ⟨w.heap.size,3,none⟩=some (.slice a L cap):=ab 3 HY.out;have y4:w1.cell? ⟨w.heap.size,4,none⟩=some (.int .i64 p):=ab 4 HY.out;generalize (opr nm).2=wh at K HRR;clear hR hRR
      go_enter Tryz.func113,Tryz.ntmps113
      (go_upto_region 13 with (fail));rw [← HW.out];(go_wp2_with fail);refine K.mono ?_;rintro en w3 ⟨rfl,hk3,ho3⟩;have HK3:=Hd (And.intro hk3 ((HO1.out.mono (T:=[g]) (by simp)).trans ho3 (fun k hk=>.inl hk)));clear hk3 ho3;(go_wp2_with fail);go_ret;rw [HRR.out];exact ⟨rfl,HK3.out.1,HK3.out.2⟩
     ·have hRR:R=(1,s):=by rw [hR,if_neg h2,if_neg h3,if_neg h5,if_neg h4,if_neg h6]
      have HRR:=Hd hRR;have e2:(k == 2)=false:=by simpa using h2
      have e3:(k == 3)=false:=by simpa using h3
      have e4:(k == 4)=false:=by simpa using h4
      have e5:(k == 5)=false:=by simpa using h5
      have e6:(k == 6)=false:=by simpa using h6
      clear hR hRR
      go_enter Tryz.func113,Tryz.ntmps113
      (go_wp2_with fail);go_ret;rw [HRR.out];exact ⟨rfl,by have:=HH.out;rw [HW.out] at this;exact this,by have:=HO1.out;rw [HW.out] at this;exact this.mono (by simp)⟩
theorem jo (N:Nat) (hN:N≤1000000):kM N∧lQ N:=by
 induction N with
 | zero=>
  have h0:kM 0:=fun e he=>by cases e;unfold aC at he;omega
  exact ⟨h0,jn 0 hN h0⟩
 | succ N ih=>
  obtain ⟨h1,h2⟩:=ih (by omega);have h3:=sd N h2 h1;exact ⟨h3,jn (N+1) hN h3⟩
end Go.Proofs.YtcebchffcmpfeaaGreat
