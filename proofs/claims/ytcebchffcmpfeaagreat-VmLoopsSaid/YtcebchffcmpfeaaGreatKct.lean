import Derived.Test.YtcebchffcmpfeaaGreatKbt
import Derived.Test.YtcebchffcmpfeaaGreatGbt
namespace Go.Proofs.YtcebchffcmpfeaaGreat
set_option linter.unusedVariables false
set_option linter.unusedSimpArgs false
set_option maxRecDepth 100000
set_option maxHeartbeats 16000000
open Go.RowKit Go.Maps
def St.kind:St→Int | .mk k _ _ _ _ _ _=>k
def St.pos:St→Int | .mk _ _ _ _ _ _ p=>p
def CS.bump (s:CS) (k:Int):CS:={s with ki:=fun j=>if (j:Int)=k then wrap64 (s.ki j+1) else s.ki j }
mutual
def iP:CS→St→CS
 | s,.mk k nm xs n bd els p=>
  if k=1 then (match xs with | []=>s | x :: _=>(aI s x).2.declare nm (aI s x).1 p)
  else if k=6 then (aT ((aT (ay s 2 xs) bd).forget (ay s 2 xs).decl.length) els).forget ((aT (ay s 2 xs) bd).forget (ay s 2 xs).decl.length).decl.length
  else if k=7∨k=8 then (aT (if 64 < n then (s.declare nm 1 p).fail 11 p else s.declare nm 1 p) bd).forget s.decl.length
  else ay s 1 xs
def aT:CS→List St→CS
 | s,[]=>s
 | s,x :: xs=>aT (iP (s.bump x.kind) x) xs
end
mutual
def bn:St→Nat | .mk _ _ xs _ bd els _=>1+aq xs+ah bd+ah els
def ah:List St→Nat | []=>0 | e :: es=>bn e+ah es
end
mutual
def okS:St→Prop | .mk k nm xs n bd els _=>1≤k∧k≤8∧nm.length≤65536∧(k=1→xs≠[])∧okL xs∧si bd∧si els
def si:List St→Prop | []=>True | e :: es=>okS e∧si es
end
theorem qW:∀ {xs:List St} {j:Nat} {e:St},si xs→xs[j]?=some e→okS e
 | [],j,e,_,h=>by simp at h
 | x :: xs,0,e,h,hj=>by unfold si at h;simp at hj;subst hj;exact h.1
 | x :: xs,j+1,e,h,hj=>by unfold si at h;exact qW h.2 (by simpa using hj)
theorem eM:∀ {xs:List St} {j:Nat} {e:St},xs[j]?=some e→bn e≤ah xs
 | [],j,e,h=>by simp at h
 | x :: xs,0,e,hj=>by simp at hj;subst hj;unfold ah;omega
 | x :: xs,j+1,e,hj=>by have:=eM (xs:=xs) (j:=j) (e:=e) (by simpa using hj);unfold ah;omega
theorem cI:∀ xs:List St,xs.length≤ah xs
 | []=>Nat.le_refl _
 | e :: es=>by
  have:=cI es;have:1≤bn e:=by cases e;unfold bn;omega
  unfold ah;simp;omega
theorem pH {s:CS} {xs:List St} {j:Nat} {e:St} (hj:xs[j]?=some e):aT s (xs.drop j)=aT (iP (s.bump e.kind) e) (xs.drop (j+1)):=by
 obtain ⟨hlt,rfl⟩:=List.getElem?_eq_some_iff.1 hj;rw [List.drop_eq_getElem_cons hlt]
 conv=>lhs;unfold aT
theorem SsAt.get {w:World} {B:Nat→Prop} {gr:Nat}:∀ (xs:List St) (i:Nat),SsAt w B gr i xs→∀ j e,xs[j]?=some e→∃ cs,SV w B e cs∧∀ c u,cs[c]?=some u→w.cell? ⟨gr,(i+j)*7+c,none⟩=some u
 | [],i,_=>fun j e h=>by simp at h
 | x :: xs,i,h=>fun j e hj=>by
  unfold SsAt at h;obtain ⟨⟨cs,h1,h2⟩,h3⟩:=h;cases j with
  | zero=>
   simp at hj;subst hj;refine ⟨cs,h1,fun c u hc=>?_⟩;have hlt:c < 7:=by have:=(List.getElem?_eq_some_iff.1 hc).1;rw [h1.len] at this;exact this
   rw [← hc,← h2 c hlt];simp
  | succ j=>
   obtain ⟨cs',e1,e2⟩:=SsAt.get xs (i+1) h3 j e (by simpa using hj);refine ⟨cs',e1,fun c u hc=>?_⟩;have:=e2 c u hc;rw [show i+1+j=i+(j+1) by omega] at this;exact this
def qX (N:Nat):Prop:=∀ (e:St),bn e≤N→∀ (w:World) (g b1 b2:Nat) (s:CS) (cs:List Value) (B:Nat→Prop),CK w g b1 b2 s→okS e→SV w B e cs→(∀ k∈[g,b1,b2],¬ B k)→
 Calls Tryz.prog 114 #[.pointer (some ⟨g,0,none⟩),.agg cs.toArray] w fun en w'=>en=.returned (.tuple #[])∧CK w' g b1 b2 (iP s e)∧Only [g,b1,b2] w w'
def js (N:Nat):Prop:=∀ (xs:List St),ah xs≤N→∀ (w:World) (g b1 b2:Nat) (s:CS) (v:Value) (B:Nat→Prop),CK w g b1 b2 s→si xs→SsV w B v xs→(∀ k∈[g,b1,b2],¬ B k)→
 Calls Tryz.prog 96 #[.pointer (some ⟨g,0,none⟩),v] w fun en w'=>en=.returned (.tuple #[])∧CK w' g b1 b2 (aT s xs)∧Only [g,b1,b2] w w'
theorem ck_kind {w:World} {g b1 b2:Nat} {s:CS} {fv:Option Addr} (h:w.heap[g]?=some (.cells (bX b1 b2 s fv) 123 (0,0))) {k:Nat} (hk:k < 9):w.cell? ⟨g,2+k,none⟩=some (.int .i64 (s.ki k)):=by
 rw [ab _ h]
 match k,hk with
 | 0,_=>rfl
 | 1,_=>rfl
 | 2,_=>rfl
 | 3,_=>rfl
 | 4,_=>rfl
 | 5,_=>rfl
 | 6,_=>rfl
 | 7,_=>rfl
 | 8,_=>rfl
theorem ck_bump {b1 b2:Nat} {s:CS} {fv:Option Addr} {k:Nat} (hk:k < 9):(bX b1 b2 s fv).setIfInBounds (2+k) (.int .i64 (wrap64 (s.ki k+1)))=bX b1 b2 (s.bump k) fv:=by
 match k,hk with
 | 0,_=>simp [bX,CS.bump]
 | 1,_=>simp [bX,CS.bump]
 | 2,_=>simp [bX,CS.bump]
 | 3,_=>simp [bX,CS.bump]
 | 4,_=>simp [bX,CS.bump]
 | 5,_=>simp [bX,CS.bump]
 | 6,_=>simp [bX,CS.bump]
 | 7,_=>simp [bX,CS.bump]
 | 8,_=>simp [bX,CS.bump]
theorem jt (N:Nat) (hNN:N≤1000000) (IS:qX N):js N:=by
 intro xs hN w g b1 b2 s v B h hok hv hB;obtain ⟨a,cap,rfl,-,hx⟩:=hv;have hlen:=cI xs;have H:=Hd h;have HX:=Hd hx;have HOK:=Hd hok;have HB:=Hd hB;clear h hx hok hB
 go_enter Tryz.func96,Tryz.ntmps96
 go_wp2_with fail
 obtain ⟨n,hn⟩:∃ n,n=xs.length:=⟨_,rfl⟩
 rw [← hn] at hlen⊢;have HN:=Hd hn;clear hn
 go_loopw [8] (fun ix wr=>∃ (j:Nat) (sj:CS),j≤n∧ix=.int .i64 (j:Int)∧Hid (aT s xs=aT sj (xs.drop j))∧Hid (CK wr g b1 b2 sj)∧Hid (Only [g,b1,b2] w wr)) (fun ix _=>n - (intOf ix).toNat)
 case atStart=>exact ⟨0,s,Nat.zero_le _,rfl,Hd (by rw [List.drop_zero]),H,Hd (Only.refl _ _)⟩
 case round=>
  obtain ⟨j,sj,hjn,rfl,HT,HK,HO⟩:=hrel
  by_cases hlt:j < n
  ·have hlt':(j:Int) < (n:Int):=by omega
   have j0:(0:Int)≤(j:Int):=by omega
   obtain ⟨e,he⟩:∃ e,xs[j]?=some e:=⟨_,List.getElem?_eq_getElem (by rw [← HN.out];exact hlt)⟩
   obtain ⟨gr,rfl,hgr,hes⟩:∃ gr,a=some ⟨gr,0,none⟩∧B gr∧SsAt w B gr 0 xs:=by
    rcases HX.out with hx | hx
    ·rw [hx] at he;simp at he
    ·exact hx
   obtain ⟨cs,hev,hcs⟩:=SsAt.get xs 0 (SsAt.kept HO.out HB.out (fun _ h=>h) hgr 0 xs hes) j e he;obtain ⟨k,nm,ys,nn,bd,els,p⟩:=e;have hoke:=qW HOK.out he;have hev':=hev;unfold SV at hev';obtain ⟨va,a1,c1,a2,c2,rfl,⟨a0,c0,rfl,-⟩,-,-⟩:=hev';have x0:wr.cell? ⟨gr,j*7,none⟩=some (.int .i64 k):=by simpa using hcs 0 _ rfl
   have x1:wr.cell? ⟨gr,j*7+1,none⟩=some (.string (aj nm)):=by simpa using hcs 1 _ rfl
   have x2:wr.cell? ⟨gr,j*7+2,none⟩=some (.slice a0 ys.length c0):=by simpa using hcs 2 _ rfl
   have x3:wr.cell? ⟨gr,j*7+3,none⟩=some (.int .i64 nn):=by simpa using hcs 3 _ rfl
   have x4:wr.cell? ⟨gr,j*7+4,none⟩=some (.slice a1 bd.length c1):=by simpa using hcs 4 _ rfl
   have x5:wr.cell? ⟨gr,j*7+5,none⟩=some (.slice a2 els.length c2):=by simpa using hcs 5 _ rfl
   have x6:wr.cell? ⟨gr,j*7+6,none⟩=some (.int .i64 p):=by simpa using hcs 6 _ rfl
   obtain ⟨kk,hkk,hk9⟩:∃ kk:Nat,k=(kk:Int)∧kk < 9:=by
    unfold okS at hoke;exact ⟨k.toNat,by omega,by omega⟩
   obtain ⟨ee,hee⟩:∃ ee,ee=St.mk k nm ys nn bd els p:=⟨_,rfl⟩
   have hkd:ee.kind=(kk:Int):=by rw [hee,← hkk];rfl
   obtain ⟨sn,hsn⟩:∃ sn,sn=aj nm:=⟨_,rfl⟩
   obtain ⟨L0,hL0⟩:∃ L,L=ys.length:=⟨_,rfl⟩
   obtain ⟨L1,hL1⟩:∃ L,L=bd.length:=⟨_,rfl⟩
   obtain ⟨L2,hL2⟩:∃ L,L=els.length:=⟨_,rfl⟩
   rw [← hee] at he hev hoke;rw [← hsn] at x1 hev;rw [← hL0] at x2 hev;rw [← hL1] at x4 hev;rw [← hL2] at x5 hev;have HEV:=Hd hev;have HE:=Hd he;have HKD:=Hd hkd;have HOKE:=Hd hoke;have hsz:bn ee≤N:=Nat.le_trans (eM he) hN;rw [hkk] at x0 HEV;clear hev hcs he hee hsn hL0 hL1 hL2 hes hoke hkd hkk;(go_upto_region 3 with (fail));obtain ⟨w5,q9,o5,hY,-⟩:=nb wr (.cells #[.int .i64 (kk:Int),.string sn,.slice a0 L0 c0,.int .i64 nn,.slice a1 L1 c1,.slice a2 L2 c2,.int .i64 p] 113);rw [← q9];clear q9;have oD:=o5.drew;have hY':=(Only.refl [] w5).drew.heap hY (by simp);have hk5:=HK.out.quiet oD;obtain ⟨fv,h1,h2⟩:=hk5.row;have y0:w5.drew.cell? ⟨wr.heap.size,0,none⟩=some (.int .i64 (kk:Int)):=ab 0 hY';have ck:w5.drew.cell? ⟨g,2+kk,none⟩=some (.int .i64 (sj.ki kk)):=ck_kind h1 hk9;have gk:=ae (2+kk) h1;have k0:(0:Int)≤(kk:Int):=by omega
   have k9:(kk:Int) < 9:=by omega
   have HY:=Hd hY';have HK5:=Hd hk5;have HO5:=Hd (HO.out.trans oD (by simp));have HOD:=Hd oD;have H1:=Hd h1;have H2:=Hd h2;clear o5 hY hY' hk5 h1 h2 oD x0 x1 x2 x3 x4 x5 x6
   go_still_tail 11,(by kernel_rfl)
   change wpList _ _ _ _ _ w5.drew;generalize w5.drew=w6 at y0 ck gk HY HK5 HO5 HOD H1 H2⊢;have y1:w6.cell? ⟨wr.heap.size,1,none⟩=some (.string sn):=ab 1 HY.out;have y2:w6.cell? ⟨wr.heap.size,2,none⟩=some (.slice a0 L0 c0):=ab 2 HY.out;have y3:w6.cell? ⟨wr.heap.size,3,none⟩=some (.int .i64 nn):=ab 3 HY.out;have y4:w6.cell? ⟨wr.heap.size,4,none⟩=some (.slice a1 L1 c1):=ab 4 HY.out;have y5:w6.cell? ⟨wr.heap.size,5,none⟩=some (.slice a2 L2 c2):=ab 5 HY.out;have y6:w6.cell? ⟨wr.heap.size,6,none⟩=some (.int .i64 p):=ab 6 HY.out;have hgw:g≠wr.heap.size:=by have:=HK.out.g_lt;omega
   (go_upto_region 4 with (fail));have oz:Only [g] w6 (w6.setCell ⟨g,2+kk,none⟩ (.int .i64 (wrap64 (sj.ki kk+1)))):=oc;have hk7:CK (w6.setCell ⟨g,2+kk,none⟩ (.int .i64 (wrap64 (sj.ki kk+1)))) g b1 b2 (sj.bump (kk:Int)):=by
    refine HK5.out.turn (fv:=fv) oz ?_ (H2.out.kept oz (fun k hk=>HK5.out.no_flt k (by simp only [List.mem_singleton] at hk;simp [hk]))) rfl rfl;have:=af (i:=2+kk) (.int .i64 (wrap64 (sj.ki kk+1))) H1.out;rw [ck_bump hk9] at this;exact this
   have hY7:=oz.heap HY.out (by simpa using fun e=>hgw e.symm);generalize w6.setCell ⟨g,2+kk,none⟩ (.int .i64 (wrap64 (sj.ki kk+1)))=w7 at oz hk7 hY7⊢;have ho7:=HO5.out.trans oz (fun k hk=>.inl (by simp only [List.mem_singleton] at hk;simp [hk]));have hev7:=SV.kept (w':=w7) ((HOD.out.mono (T:=[g]) (by simp)).trans oz (fun k hk=>.inl hk)) (fun k hk=>HB.out k (by simp only [List.mem_singleton] at hk;simp [hk])) (fun _ h=>h) ee _ HEV.out;have K1:=IS ee hsz w7 g b1 b2 _ _ B hk7 HOKE.out hev7 HB.out;have y0:w7.cell? ⟨wr.heap.size,0,none⟩=some (.int .i64 (kk:Int)):=ab 0 hY7;have y1:w7.cell? ⟨wr.heap.size,1,none⟩=some (.string sn):=ab 1 hY7;have y2:w7.cell? ⟨wr.heap.size,2,none⟩=some (.slice a0 L0 c0):=ab 2 hY7;have y3:w7.cell? ⟨wr.heap.size,3,none⟩=some (.int .i64 nn):=ab 3 hY7;have y4:w7.cell? ⟨wr.heap.size,4,none⟩=some (.slice a1 L1 c1):=ab 4 hY7;have y5:w7.cell? ⟨wr.heap.size,5,none⟩=some (.slice a2 L2 c2):=ab 5 hY7;have y6:w7.cell? ⟨wr.heap.size,6,none⟩=some (.int .i64 p):=ab 6 hY7;have hstep:aT s xs=aT (iP (sj.bump (kk:Int)) ee) (xs.drop (j+1)):=by
    rw [HT.out,pH HE.out,HKD.out]
   have HST:=Hd hstep;have HO7:=Hd ho7;clear oz hk7 hY7 ho7 hev7 hstep ck gk;(go_wp2_with fail);refine K1.mono ?_;rintro en w8 ⟨rfl,hk8,ho8⟩;have HK8:=Hd hk8;have HO8:=Hd (HO7.out.trans ho8 (fun k hk=>.inl hk));clear hk8 ho8 K1 y0 y1 y2 y3 y4 y5 y6;(go_wp2_with fail);refine ⟨⟨j+1,_,by omega,rfl,HST,HK8,HO8⟩,?_⟩;simp [intOf];omega
  ·obtain rfl:j=n:=by omega
   have hT:=HT.out;have hR:aT s xs=sj:=by
    rw [hT,HN.out,List.drop_length];unfold aT;rfl
   have HR:=Hd hR;clear hT hR;(go_wp2_with fail);go_end0;rw [HR.out];exact ⟨rfl,HK.out,HO.out⟩
theorem opr_wf (x:Sec):(Lit.int .i64 (opr x).2).wf=true:=by
 unfold opr
 repeat' split
 all_goals decide
theorem wf0:(Lit.int .i64 0).wf=true:=by decide
theorem wf1:(Lit.int .i64 1).wf=true:=by decide
theorem wf2:(Lit.int .i64 2).wf=true:=by decide
theorem exprC_wf {s:CS} (hk:∀ z t,s.known z=some t→(Lit.int .i64 t).wf=true) (e:E):(Lit.int .i64 (aI s e).1).wf=true:=by
 obtain ⟨k,n,nm,xs,p⟩:=e;unfold aI;split
 ·unfold CS.look;split
  ·exact wf2
  ·split
   ·rename_i t ht;exact hk _ _ ht
   ·exact wf0
 ·split
  ·exact wf1
  ·split
   ·exact wf1
   ·split
    ·exact wf2
    ·split
     ·split
      ·exact opr_wf nm
      ·exact opr_wf nm
     ·exact wf1
section
variable {w w':World} {g b1 b2:Nat} {s:CS} {B:Nat→Prop} {N:Nat}
theorem CK.wf (h:CK w g b1 b2 s):∀ z t,s.known z=some t→(Lit.int .i64 t).wf=true:=by
 obtain ⟨c,D,_,hr,_⟩:=h.known;exact hr.wf
theorem kP (IS:js N) {l:List St} (hN:ah l≤N) {v:Value} (h:CK w g b1 b2 s) (hok:si l) (hv:SsV w B v l) (hB:∀ k∈[g,b1,b2],¬ B k) :
  Calls Tryz.prog 126 #[.pointer (some ⟨g,0,none⟩),v] w fun en w'=>en=.returned (.tuple #[])∧CK w' g b1 b2 ((aT s l).forget s.decl.length)∧Only [g,b1,b2] w w':=by
 have K1:=IS l hN w g b1 b2 s v B h hok hv hB;obtain ⟨a,cap,rfl,-⟩:=hv;obtain ⟨fv,h1,h2⟩:=h.row;have c1:w.cell? ⟨g,1,none⟩=some (.map (some b2)):=ab 1 h1;have hlen:=fun ty=>h.decl.len Tryz.underlying90 ty;obtain ⟨L,hL⟩:∃ L,L=s.decl.length:=⟨_,rfl⟩
 rw [← hL] at hlen⊢;clear h1 h2 hL h
 go_enter Tryz.func126,Tryz.ntmps126
 go_wp2_with fail
 refine K1.mono ?_;rintro en w2 ⟨rfl,hk2,ho2⟩;have K2:=fB hk2 (L:Int);have HO2:=Hd ho2;clear hk2 ho2 K1 c1 hlen;go_wp2_with fail
 refine K2.mono ?_;rintro en w3 ⟨rfl,hk3,ho3⟩;have HK3:=Hd (And.intro hk3 (HO2.out.trans ho3 (fun k hk=>.inl hk)));clear hk3 ho3 K2;go_wp2_with fail
 go_end0;exact ⟨rfl,HK3.out.1,HK3.out.2⟩
theorem uQ (IS:js N) {k nn p:Int} {nm:Sec} {bd:List St} {a0 a1 a2:Option Addr} {L0 L2 c0 c1 c2:Nat} (hN:ah bd≤N) (h:CK w g b1 b2 s) (hnm:nm.length≤65536) (hok:si bd) (hv:SsV w B (.slice a1 bd.length c1) bd) (hB:∀ k∈[g,b1,b2],¬ B k) :
  Calls Tryz.prog 127 #[.pointer (some ⟨g,0,none⟩),.agg #[.int .i64 k,.string (aj nm),.slice a0 L0 c0,.int .i64 nn,.slice a1 bd.length c1,.slice a2 L2 c2,.int .i64 p]] w
   fun en w'=>en=.returned (.tuple #[])∧CK w' g b1 b2 ((aT (if 64 < nn then (s.declare nm 1 p).fail 11 p else s.declare nm 1 p) bd).forget s.decl.length)∧Only [g,b1,b2] w w':=by
 obtain ⟨sn,hsn⟩:∃ sn,sn=aj nm:=⟨_,rfl⟩
 obtain ⟨L1,hL1⟩:∃ L,L=bd.length:=⟨_,rfl⟩
 rw [← hsn,← hL1];rw [← hL1] at hv;have o1:Only [] w (w.alloc (.cells #[.int .i64 k,.string sn,.slice a0 L0 c0,.int .i64 nn,.slice a1 L1 c1,.slice a2 L2 c2,.int .i64 p] 113)):=(Only.refl _ _).alloc _;have HY:=Hd (ag w (.cells #[.int .i64 k,.string sn,.slice a0 L0 c0,.int .i64 nn,.slice a1 L1 c1,.slice a2 L2 c2,.int .i64 p] 113));have hgw:w.heap.size∉[g,b1,b2]:=by
  have h3:=h.g_lt;have h4:=h.b1_lt;have h5:=h.b2_lt;simp only [List.mem_cons,List.not_mem_nil,or_false,not_or];omega
 obtain ⟨w1,hw1⟩:∃ w1,w1=w.alloc (.cells #[.int .i64 k,.string sn,.slice a0 L0 c0,.int .i64 nn,.slice a1 L1 c1,.slice a2 L2 c2,.int .i64 p] 113):=⟨_,rfl⟩
 rw [← hw1] at o1 HY;have HO1:=Hd o1;have HW:=Hd hw1;have HH:=Hd (h.quiet o1);have HB:=Hd hB;have HV:=Hd (hv.quiet o1);have HOK:=Hd hok;have HSN:=Hd hsn;obtain ⟨fv,h1,h2⟩:=HH.out.row;have c1':w1.cell? ⟨g,1,none⟩=some (.map (some b2)):=ab 1 h1;have hlen:=fun ty=>HH.out.decl.len Tryz.underlying90 ty;obtain ⟨D,hD⟩:∃ D,D=s.decl.length:=⟨_,rfl⟩
 rw [← hD] at hlen⊢;have K1:=et HH.out nm hnm 1 p (by decide);rw [← hsn] at K1;have y1:w1.cell? ⟨w.heap.size,1,none⟩=some (.string sn):=ab 1 HY.out;have y6:w1.cell? ⟨w.heap.size,6,none⟩=some (.int .i64 p):=ab 6 HY.out;clear h hv hok hsn hL1 hD h1 h2 o1 hw1 hB
 go_enter Tryz.func127,Tryz.ntmps127
 go_upto_region 1 with (fail)
 rw [← HW.out];go_wp2_with fail
 refine K1.mono ?_;rintro en w2 ⟨rfl,hk2,ho2⟩;have HY2:=Hd (ho2.heap HY.out hgw);have HK2:=Hd hk2;have HV2:=Hd (HV.out.kept ho2 HB.out (fun _ h=>h));have HO2:=Hd ((HO1.out.mono (T:=[g,b1,b2]) (by simp)).trans ho2 (fun k hk=>.inl hk));have y3:w2.cell? ⟨w.heap.size,3,none⟩=some (.int .i64 nn):=ab 3 HY2.out;clear hk2 ho2 K1 y1 y6 c1' hlen HH HO1
 by_cases h64:64 < nn
 ·have y6:w2.cell? ⟨w.heap.size,6,none⟩=some (.int .i64 p):=ab 6 HY2.out;have K2:=cS HK2.out 11 p;go_wp2_with fail
  refine K2.mono ?_;rintro en w3 ⟨rfl,hk3,ho3⟩;have hsub:Only [g,b1,b2] w2 w3:=ho3.mono (by simp);have HY3:=Hd (hsub.heap HY2.out hgw);have K3:=IS bd hN w3 g b1 b2 _ _ B hk3 HOK.out (HV2.out.kept hsub HB.out (fun _ h=>h)) HB.out;have HO3:=Hd (HO2.out.trans hsub (fun k hk=>.inl hk));have y4:w3.cell? ⟨w.heap.size,4,none⟩=some (.slice a1 L1 c1):=ab 4 HY3.out;clear hk3 ho3 hsub K2 y3 y6;go_wp2_with fail
  refine K3.mono ?_;rintro en w4 ⟨rfl,hk4,ho4⟩;have K4:=fB hk4 (D:Int);have HO4:=Hd (HO3.out.trans ho4 (fun k hk=>.inl hk));clear hk4 ho4 K3 y4;go_wp2_with fail
  refine K4.mono ?_;rintro en w5 ⟨rfl,hk5,ho5⟩;have HK5:=Hd (And.intro hk5 (HO4.out.trans ho5 (fun k hk=>.inl hk)));clear hk5 ho5 K4;go_wp2_with fail
  go_end0;first | exact ⟨rfl,HK5.out.1,HK5.out.2⟩ | (rw [if_pos h64];exact ⟨rfl,HK5.out.1,HK5.out.2⟩)
 ·have K3:=IS bd hN w2 g b1 b2 _ _ B HK2.out HOK.out HV2.out HB.out;have HO3:=HO2;have y4:w2.cell? ⟨w.heap.size,4,none⟩=some (.slice a1 L1 c1):=ab 4 HY2.out;go_wp2_with fail
  refine K3.mono ?_;rintro en w4 ⟨rfl,hk4,ho4⟩;have K4:=fB hk4 (D:Int);have HO4:=Hd (HO3.out.trans ho4 (fun k hk=>.inl hk));clear hk4 ho4 K3 y4;go_wp2_with fail
  refine K4.mono ?_;rintro en w5 ⟨rfl,hk5,ho5⟩;have HK5:=Hd (And.intro hk5 (HO4.out.trans ho5 (fun k hk=>.inl hk)));clear hk5 ho5 K4;go_wp2_with fail
  go_end0;first | exact ⟨rfl,HK5.out.1,HK5.out.2⟩ | (rw [if_neg (by omega)];exact ⟨rfl,HK5.out.1,HK5.out.2⟩)
theorem sl (N:Nat) (hN6:N≤1000000) (IS:js N):qX (N+1):=by
 intro e hN w g b1 b2 s cs B h hok hev hB;obtain ⟨k,nm,ys,nn,bd,els,p⟩:=e;unfold okS at hok;obtain ⟨hk1,hk8,hnm,hne,hokl,hokb,hoke⟩:=hok;have hsy:aq ys≤N:=by unfold bn at hN;omega
 have hsb:ah bd≤N:=by unfold bn at hN;omega
 have hse:ah els≤N:=by unfold bn at hN;omega
 obtain ⟨IE,IT⟩:=jo N hN6;unfold SV at hev;obtain ⟨va,a1,c1,a2,c2,rfl,hxs,hb,hels⟩:=hev;obtain ⟨a0,c0,rfl,hc0,hx0⟩:=hxs;obtain ⟨R,hR⟩:∃ R,R=iP s (.mk k nm ys nn bd els p):=⟨_,rfl⟩
 rw [← hR];unfold iP at hR;have hvb:SsV w B (.slice a1 bd.length c1) bd:=⟨a1,c1,rfl,hb⟩
 have hve:SsV w B (.slice a2 els.length c2) els:=⟨a2,c2,rfl,hels⟩
 obtain ⟨sn,hsn⟩:∃ sn,sn=aj nm:=⟨_,rfl⟩
 obtain ⟨L0,hL0⟩:∃ L,L=ys.length:=⟨_,rfl⟩
 obtain ⟨L1,hL1⟩:∃ L,L=bd.length:=⟨_,rfl⟩
 obtain ⟨L2,hL2⟩:∃ L,L=els.length:=⟨_,rfl⟩
 rw [← hsn,← hL0,← hL1,← hL2];have o1:Only [] w (w.alloc (.cells #[.int .i64 k,.string sn,.slice a0 L0 c0,.int .i64 nn,.slice a1 L1 c1,.slice a2 L2 c2,.int .i64 p] 113)):=(Only.refl _ _).alloc _;have HY:=Hd (ag w (.cells #[.int .i64 k,.string sn,.slice a0 L0 c0,.int .i64 nn,.slice a1 L1 c1,.slice a2 L2 c2,.int .i64 p] 113));have hgw:w.heap.size∉[g,b1,b2]:=by
  have h3:=h.g_lt;have h4:=h.b1_lt;have h5:=h.b2_lt;simp only [List.mem_cons,List.not_mem_nil,or_false,not_or];omega
 obtain ⟨w1,hw1⟩:∃ w1,w1=w.alloc (.cells #[.int .i64 k,.string sn,.slice a0 L0 c0,.int .i64 nn,.slice a1 L1 c1,.slice a2 L2 c2,.int .i64 p] 113):=⟨_,rfl⟩
 rw [← hw1] at o1 HY;have HO1:=Hd o1;have HW:=Hd hw1;have HH:=Hd (h.quiet o1);have HB:=Hd hB;have HSN:=Hd hsn;have HL0:=Hd hL0;have HL1:=Hd hL1;have HL2:=Hd hL2;have HVB:=Hd (hvb.quiet o1);have HVE:=Hd (hve.quiet o1);have hvy:EsW w1 B (.slice a0 L0 c0) ys:=by
  refine ⟨a0,c0,by rw [hL0],hx0.imp id ?_⟩;rintro ⟨gr,rfl,hb,h3⟩;exact ⟨gr,0,rfl,hb,(EsAt.eso ys 0 0 rfl h3).kept o1 (by simp) hb⟩
 have HVY:=Hd hvy;have hBg:¬ B g:=hB g (by simp);clear h hvb hve hsn hL0 hL1 hL2 o1 hw1 hB hb hels hx0 hvy
 by_cases h1:k=1
 ·subst h1;obtain ⟨e1,es,rfl⟩:∃ e1 es,ys=e1 :: es:=by
   cases ys with
   | nil=>exact absurd rfl (hne rfl)
   | cons e1 es=>exact ⟨e1,es,rfl⟩
  have hRR:R=(aI s e1).2.declare nm (aI s e1).1 p:=by rw [hR,if_pos rfl]
  obtain ⟨a0',cap',hsl,hx⟩:=HVY.out;injection hsl with ea el ec
  rw [← ea] at hx;clear ea el ec;obtain ⟨gr,off,rfl,hgr,heo⟩:∃ gr off,a0=some ⟨gr,off,none⟩∧B gr∧EsO w1 B gr off (e1 :: es):=by
   rcases hx with hx | hx
   ·cases hx
   ·exact hx
  obtain ⟨cs,hev,hcs⟩:=heo 0 e1 rfl;obtain ⟨k1,n1,nm1,ys1,p1⟩:=e1;have hev':=hev;unfold EV at hev';obtain ⟨aa,cap1,rfl,-,-⟩:=hev';obtain ⟨ee,hee⟩:∃ ee,ee=E.mk k1 n1 nm1 ys1 p1:=⟨_,rfl⟩
  obtain ⟨sn1,hsn1⟩:∃ sn1,sn1=aj nm1:=⟨_,rfl⟩
  obtain ⟨M1,hM1⟩:∃ L1,L1=ys1.length:=⟨_,rfl⟩
  rw [← hee] at hev hsy hokl hRR;have z0:w1.cell? ⟨gr,off,none⟩=some (.int .i64 k1):=by simpa using hcs 0 _ rfl
  have z1:w1.cell? ⟨gr,off+1,none⟩=some (.int .i64 n1):=by simpa using hcs 1 _ rfl
  have z2:w1.cell? ⟨gr,off+2,none⟩=some (.string (aj nm1)):=by simpa using hcs 2 _ rfl
  have z3:w1.cell? ⟨gr,off+3,none⟩=some (.slice aa ys1.length cap1):=by simpa using hcs 3 _ rfl
  have z4:w1.cell? ⟨gr,off+4,none⟩=some (.int .i64 p1):=by simpa using hcs 4 _ rfl
  rw [← hsn1] at z2 hev;rw [← hM1] at z3 hev;have K1:=IE ee (by unfold aq at hsy;omega) w1 g b1 b2 s _ B HH.out (by unfold okL at hokl;exact hokl.1) hev hBg;have hwf:=exprC_wf HH.out.wf ee;have hL0':(0:Int) < (L0:Int):=by have:=HL0.out;simp at this;omega
  have y2:w1.cell? ⟨w.heap.size,2,none⟩=some (.slice (some ⟨gr,off,none⟩) L0 c0):=ab 2 HY.out;obtain ⟨t,ht⟩:∃ t,t=(aI s ee).1:=⟨_,rfl⟩
  obtain ⟨s1,hs1⟩:∃ s1,s1=(aI s ee).2:=⟨_,rfl⟩
  rw [← ht,← hs1] at K1 hRR;rw [← ht] at hwf;have HRR:=Hd hRR;clear hRR ht hs1 hev hcs heo hx hsn1 hM1 hee;clear hR
  go_enter Tryz.func114,Tryz.ntmps114
  go_upto_region 4 with (fail)
  rw [← HW.out];go_wp2_with fail
  refine K1.mono ?_;rintro en w2 ⟨rfl,hk2,ho2⟩;have hsub:Only [g,b1,b2] w1 w2:=ho2.mono (by simp);have HY2:=Hd (hsub.heap HY.out hgw);have HO2:=Hd ((HO1.out.mono (T:=[g,b1,b2]) (by simp)).trans hsub (fun k hk=>.inl hk));have K2:=et hk2 nm hnm t p hwf;rw [← HSN.out] at K2;have y1:w2.cell? ⟨w.heap.size,1,none⟩=some (.string sn):=ab 1 HY2.out;have y6:w2.cell? ⟨w.heap.size,6,none⟩=some (.int .i64 p):=ab 6 HY2.out;clear hk2 ho2 hsub K1 y2 z0 z1 z2 z3 z4;go_wp2_with fail
  refine K2.mono ?_;rintro en w4 ⟨rfl,hk4,ho4⟩;have HK9:=Hd (And.intro hk4 (HO2.out.trans ho4 (fun k hk=>.inl hk)));clear hk4 ho4 K2 y1 y6;go_wp2_with fail
  go_end0;rw [HRR.out];exact ⟨rfl,HK9.out.1,HK9.out.2⟩
 ·by_cases h6:k=6
  ·subst h6;have hRR:R=(aT ((aT (ay s 2 ys) bd).forget (ay s 2 ys).decl.length) els).forget ((aT (ay s 2 ys) bd).forget (ay s 2 ys).decl.length).decl.length:=by rw [hR,if_neg (by decide),if_pos rfl]
   have HRR:=Hd hRR;clear hRR;have y2:w1.cell? ⟨w.heap.size,2,none⟩=some (.slice a0 L0 c0):=ab 2 HY.out;have K1:=IT ys hsy w1 g b1 b2 s _ B 2 HH.out hokl HVY.out hBg;clear hR
   go_enter Tryz.func114,Tryz.ntmps114
   (go_upto_region 7 with (fail));rw [← HW.out];(go_wp2_with fail);refine K1.mono ?_;rintro en w2 ⟨rfl,hk2,ho2⟩;have hsub:Only [g,b1,b2] w1 w2:=ho2.mono (by simp);have HY2:=Hd (hsub.heap HY.out hgw);have HVB2:=Hd (HVB.out.kept hsub HB.out (fun _ h=>h));have HVE2:=Hd (HVE.out.kept hsub HB.out (fun _ h=>h));have HO2:=Hd ((HO1.out.mono (T:=[g,b1,b2]) (by simp)).trans hsub (fun k hk=>.inl hk));have K2:=kP IS hsb hk2 hokb HVB2.out HB.out;rw [← HL1.out] at K2;have y4:w2.cell? ⟨w.heap.size,4,none⟩=some (.slice a1 L1 c1):=ab 4 HY2.out;clear hk2 ho2 hsub K1 y2;(go_wp2_with fail);refine K2.mono ?_;rintro en w3 ⟨rfl,hk3,ho3⟩;have HY3:=Hd (ho3.heap HY2.out hgw);have HVE3:=Hd (HVE2.out.kept ho3 HB.out (fun _ h=>h));have HO3:=Hd (HO2.out.trans ho3 (fun k hk=>.inl hk));have K3:=kP IS hse hk3 hoke HVE3.out HB.out;rw [← HL2.out] at K3;have y5:w3.cell? ⟨w.heap.size,5,none⟩=some (.slice a2 L2 c2):=ab 5 HY3.out;clear hk3 ho3 K2 y4;(go_wp2_with fail);refine K3.mono ?_;rintro en w4 ⟨rfl,hk4,ho4⟩;have HK9:=Hd (And.intro hk4 (HO3.out.trans ho4 (fun k hk=>.inl hk)));clear hk4 ho4 K3 y5;(go_wp2_with fail);go_end0;rw [HRR.out];exact ⟨rfl,HK9.out.1,HK9.out.2⟩
  ·by_cases h78:k=7∨k=8
   ·have hRR:R=(aT (if 64 < nn then (s.declare nm 1 p).fail 11 p else s.declare nm 1 p) bd).forget s.decl.length:=by rw [hR,if_neg h1,if_neg h6,if_pos h78]
    have HRR:=Hd hRR;have K1:=uQ (s:=s) IS (k:=k) (nn:=nn) (p:=p) (nm:=nm) (a0:=a0) (a2:=a2) (L0:=L0) (L2:=L2) (c0:=c0) (c2:=c2) hsb HH.out hnm hokb HVB.out HB.out;rw [← HSN.out,← HL1.out] at K1;have y0:w1.cell? ⟨w.heap.size,0,none⟩=some (.int .i64 k):=ab 0 HY.out;have y1:w1.cell? ⟨w.heap.size,1,none⟩=some (.string sn):=ab 1 HY.out;have y2:w1.cell? ⟨w.heap.size,2,none⟩=some (.slice a0 L0 c0):=ab 2 HY.out;have y3:w1.cell? ⟨w.heap.size,3,none⟩=some (.int .i64 nn):=ab 3 HY.out;have y4:w1.cell? ⟨w.heap.size,4,none⟩=some (.slice a1 L1 c1):=ab 4 HY.out;have y5:w1.cell? ⟨w.heap.size,5,none⟩=some (.slice a2 L2 c2):=ab 5 HY.out;have y6:w1.cell? ⟨w.heap.size,6,none⟩=some (.int .i64 p):=ab 6 HY.out;clear hRR h1 h6;rcases h78 with rfl | rfl<;>
    ·skip
     clear hR
     go_enter Tryz.func114,Tryz.ntmps114
     (go_upto_region 12 with (fail));rw [← HW.out];(go_wp2_with fail);refine K1.mono ?_;rintro en w4 ⟨rfl,hk4,ho4⟩;have HK9:=Hd (And.intro hk4 ((HO1.out.mono (T:=[g,b1,b2]) (by simp)).trans ho4 (fun k hk=>.inl hk)));clear hk4 ho4 K1;(go_wp2_with fail);go_end0;rw [HRR.out];exact ⟨rfl,HK9.out.1,HK9.out.2⟩
   ·have hRR:R=ay s 1 ys:=by rw [hR,if_neg h1,if_neg h6,if_neg h78]
    have HRR:=Hd hRR;have e1:(k == 1)=false:=by simpa using h1
    have e6:(k == 6)=false:=by simpa using h6
    have e7:(k == 7)=false:=by simp only [beq_eq_false_iff_ne];exact fun e=>h78 (.inl e)
    have e8:(k == 8)=false:=by simp only [beq_eq_false_iff_ne];exact fun e=>h78 (.inr e)
    have y2:w1.cell? ⟨w.heap.size,2,none⟩=some (.slice a0 L0 c0):=ab 2 HY.out;have K1:=IT ys hsy w1 g b1 b2 s _ B 1 HH.out hokl HVY.out hBg;clear hRR;clear hR
    go_enter Tryz.func114,Tryz.ntmps114
    (go_upto_region 2 with (fail));rw [← HW.out];(go_wp2_with fail);refine K1.mono ?_;rintro en w4 ⟨rfl,hk4,ho4⟩;have HK9:=Hd (And.intro hk4 ((HO1.out.mono (T:=[g,b1,b2]) (by simp)).trans (ho4.mono (T:=[g,b1,b2]) (by simp)) (fun k hk=>.inl hk)));clear hk4 ho4 K1;(go_wp2_with fail);go_end0;rw [HRR.out];exact ⟨rfl,HK9.out.1,HK9.out.2⟩
theorem so (N:Nat) (hN:N≤1000000):qX N∧js N:=by
 induction N with
 | zero=>
  have h0:qX 0:=fun e he=>by cases e;unfold bn at he;omega
  exact ⟨h0,jt 0 hN h0⟩
 | succ N ih=>
  obtain ⟨h1,h2⟩:=ih (by omega);have h3:=sl N (by omega) h2;exact ⟨h3,jt (N+1) hN h3⟩
end
theorem sq (l:List E) (e:E):aq (l++[e])=aq l+aC e:=by
 induction l with
 | nil=>simp [aq]
 | cons x l ih=>simp [aq,ih];omega
theorem ce {xs:List E} {j:Nat} {e:E} (hj:xs[j]?=some e):aq (xs.take (j+1))=aq (xs.take j)+aC e:=by
 rw [List.take_add_one,hj,Option.toList_some,sq]
theorem bj (xs:List E) (j:Nat):aq (xs.take j)≤aq xs:=by
 induction xs generalizing j with
 | nil=>simp
 | cons x xs ih=>
  cases j with
  | zero=>simp [aq]
  | succ j=>have:=ih j;simp [aq];omega
theorem EsV.of_parts {w:World} {B:Nat→Prop} {a:Option Addr} {ys:List E} {cap:Nat} (h1:ys.length≤cap) (h2:ys=[]∨∃ g,a=some ⟨g,0,none⟩∧B g∧EsAt w B g 0 ys):EsV w B (.slice a ys.length cap) ys:=⟨a,cap,rfl,h1,h2⟩
def uR (N:Nat):Prop:=∀ (xs:List E),aq xs≤N→∀ (w:World) (v:Value) (B:Nat→Prop),EsV w B v xs→Calls Tryz.prog 115 #[v] w fun en w'=>en=.returned (.int .i64 (aq xs:Nat))∧Only [] w w'
theorem sr (N:Nat) (hNN:N≤1000000) (IS:∀ M,M < N→uR M):uR N:=by
 intro xs hN w v B hv;obtain ⟨a,cap,rfl,hcap,hx⟩:=hv;have hlen:xs.length≤aq xs:=by
  clear hN hcap hx
  induction xs with
  | nil=>exact Nat.le_refl _
  | cons e es ih=>
   have:1≤aC e:=by cases e;unfold aC;omega
   unfold aq;simp;omega
 have HX:=Hd hx;obtain ⟨n,hn⟩:∃ n,n=xs.length:=⟨_,rfl⟩
 rw [← hn] at hlen⊢;have HN:=Hd hn;have hnb:n≤1000000:=by omega
 clear hx hn hcap
 go_enter Tryz.func115,Tryz.ntmps115
 go_wp2_with fail
 go_loopw [3,8] (fun st ix wr=>∃ (j T:Nat),j≤n∧ix=.int .i64 (j:Int)∧st=.int .i64 (T:Int)∧Hid (T=aq (xs.take j))∧Hid (Only [] w wr)) (fun _ ix _=>n - (intOf ix).toNat)
 case atStart=>exact ⟨0,0,Nat.zero_le _,rfl,rfl,Hd (by simp [aq]),Hd (Only.refl _ _)⟩
 case round=>
  obtain ⟨j,T,hjn,rfl,rfl,HT,HO⟩:=hrel
  by_cases hlt:j < n
  ·have hlt':(j:Int) < (n:Int):=by omega
   have j0:(0:Int)≤(j:Int):=by omega
   obtain ⟨e,he⟩:∃ e,xs[j]?=some e:=⟨_,List.getElem?_eq_getElem (by rw [← HN.out];exact hlt)⟩
   obtain ⟨gr,rfl,hgr,hes⟩:∃ gr,a=some ⟨gr,0,none⟩∧B gr∧EsAt w B gr 0 xs:=by
    rcases HX.out with hx | hx
    ·rw [hx] at he;simp at he
    ·exact hx
   obtain ⟨cs,hev,hcs⟩:=(EsAt.eso xs 0 0 rfl hes).kept HO.out (by simp) hgr j e he;obtain ⟨k,nn,nm,ys,p⟩:=e;have hT1:=ce he;have hT2:=bj xs (j+1);rw [← HT.out] at hT1;unfold aC at hT1;unfold EV at hev;obtain ⟨a',cap',rfl,hc',hx'⟩:=hev;have x0:wr.cell? ⟨gr,j*5,none⟩=some (.int .i64 k):=by simpa using hcs 0 _ rfl
   have x1:wr.cell? ⟨gr,j*5+1,none⟩=some (.int .i64 nn):=by simpa using hcs 1 _ rfl
   have x2:wr.cell? ⟨gr,j*5+2,none⟩=some (.string (aj nm)):=by simpa using hcs 2 _ rfl
   have x3:wr.cell? ⟨gr,j*5+3,none⟩=some (.slice a' ys.length cap'):=by simpa using hcs 3 _ rfl
   have x4:wr.cell? ⟨gr,j*5+4,none⟩=some (.int .i64 p):=by simpa using hcs 4 _ rfl
   have hev2:=EsV.of_parts hc' hx';have hsz:aq ys < N:=by omega
   obtain ⟨sn,hsn⟩:∃ sn,sn=aj nm:=⟨_,rfl⟩
   obtain ⟨L,hL⟩:∃ L,L=ys.length:=⟨_,rfl⟩
   rw [← hsn] at x2;rw [← hL] at x3 hev2;have HEV:=Hd hev2;obtain ⟨Y,hY⟩:∃ Y,Y=aq ys:=⟨_,rfl⟩
   obtain ⟨T',hT'⟩:∃ T',T'=aq (xs.take (j+1)):=⟨_,rfl⟩
   rw [← hY,← hT'] at hT1;rw [← hT'] at hT2;have b1:T+(1+Y)≤1000000:=by omega
   have HT1:=Hd hT1;have HT':=Hd hT';have IS':=IS _ hsz;have HY:=Hd hY;clear hev2 hcs he hsn hL hes hx' hY hT1 hT' hT2 hsz hN hlen;(go_upto_region 5 with (fail));obtain ⟨w5,q9,o5,hY5,-⟩:=nb wr (.cells #[.int .i64 k,.int .i64 nn,.string sn,.slice a' L cap',.int .i64 p] 95);rw [← q9];clear q9;have y3:w5.cell? ⟨wr.heap.size,3,none⟩=some (.slice a' L cap'):=ab 3 hY5;have K1:=IS' ys (Nat.le_refl _) w5 _ B (HEV.out.quiet o5);rw [← HY.out] at K1;have HO5:=Hd (HO.out.trans o5 (by simp));clear o5 hY5 x0 x1 x2 x3 x4;(go_wp2_with fail);refine K1.mono ?_;rintro en w6 ⟨rfl,ho6⟩;have HO6:=Hd (HO5.out.trans ho6 (by simp));clear ho6 K1 y3;(go_wp2_with fail);refine ⟨⟨j+1,T+(1+Y),by omega,rfl,by simp,Hd (by rw [← HT'.out,HT1.out]),HO6⟩,?_⟩;simp [intOf];omega
  ·obtain rfl:j=n:=by omega
   have hT:T=aq xs:=by rw [HT.out,HN.out,List.take_length]
   have HTT:=Hd hT;clear hT;(go_wp2_with fail);go_ret;rw [← HTT.out];exact ⟨rfl,HO.out⟩
theorem ju (N:Nat) (hN:N≤1000000):uR N:=by
 induction N using Nat.strongRecOn with
 | _ N ih=>exact sr N hN (fun M hM=>ih M hM (by omega))
mutual
def stS:St→Nat | .mk k _ xs n bd els _=>1+aq xs+(if k=6 then max (stB 0 bd) (stB 0 els) else if k=7∨k=8 then n.toNat*(1+stB 0 bd) else 0)
def stB:Nat→List St→Nat | acc,[]=>acc | acc,x :: xs=>stB (min (acc+stS x) 2049) xs
end
theorem kQ:∀ (xs:List St) (acc:Nat),acc≤2049→stB acc xs≤2049
 | [],acc,h=>by unfold stB;exact h
 | x :: xs,acc,h=>by unfold stB;exact kQ xs _ (by omega)
mutual
def sz:St→Prop | .mk k _ _ n bd els _=>(k=7∨k=8→0≤n∧n≤64)∧kR bd∧kR els
def kR:List St→Prop | []=>True | x :: xs=>sz x∧kR xs
end
theorem lV:∀ {xs:List St} {j:Nat} {e:St},kR xs→xs[j]?=some e→sz e
 | [],j,e,_,h=>by simp at h
 | x :: xs,0,e,h,hj=>by unfold kR at h;simp at hj;subst hj;exact h.1
 | x :: xs,j+1,e,h,hj=>by unfold kR at h;exact lV h.2 (by simpa using hj)
theorem stB_drop {acc:Nat} {xs:List St} {j:Nat} {e:St} (hj:xs[j]?=some e):stB acc (xs.drop j)=stB (min (acc+stS e) 2049) (xs.drop (j+1)):=by
 obtain ⟨hlt,rfl⟩:=List.getElem?_eq_some_iff.1 hj;rw [List.drop_eq_getElem_cons hlt]
 conv=>lhs;unfold stB
def CStpP (N:Nat):Prop:=∀ (e:St),bn e≤N→∀ (w:World) (cs:List Value) (B:Nat→Prop),sz e→SV w B e cs→Calls Tryz.prog 128 #[.agg cs.toArray] w fun en w'=>en=.returned (.int .i64 (stS e:Nat))∧Only [] w w'
def CStbP (N:Nat):Prop:=∀ (xs:List St),ah xs≤N→∀ (w:World) (v:Value) (B:Nat→Prop),kR xs→SsV w B v xs→Calls Tryz.prog 116 #[v] w fun en w'=>en=.returned (.int .i64 (stB 0 xs:Nat))∧Only [] w w'
theorem mW (N:Nat) (hNN:N≤1000000) (hst:∀ e,bn e≤N→sz e→stS e≤100000000) (IS:CStpP N):CStbP N:=by
 intro xs hN w v B hok hv;obtain ⟨a,cap,rfl,-,hx⟩:=hv;have hlen:=cI xs;have HX:=Hd hx;have HOK:=Hd hok;obtain ⟨n,hn⟩:∃ n,n=xs.length:=⟨_,rfl⟩
 rw [← hn] at hlen⊢;have HN:=Hd hn;have hnb:n≤1000000:=by omega
 clear hx hn hok
 go_enter Tryz.func116,Tryz.ntmps116
 go_wp2_with fail
 go_loopw [3,8] (fun st ix wr=>∃ (j T:Nat),j≤n∧ix=.int .i64 (j:Int)∧st=.int .i64 (T:Int)∧T≤2049∧Hid (stB 0 xs=stB T (xs.drop j))∧Hid (Only [] w wr)) (fun _ ix _=>n - (intOf ix).toNat)
 case atStart=>exact ⟨0,0,Nat.zero_le _,rfl,rfl,by omega,Hd (by rw [List.drop_zero]),Hd (Only.refl _ _)⟩
 case round=>
  obtain ⟨j,T,hjn,rfl,rfl,hTb,HT,HO⟩:=hrel
  by_cases hlt:j < n
  ·have hlt':(j:Int) < (n:Int):=by omega
   have j0:(0:Int)≤(j:Int):=by omega
   obtain ⟨e,he⟩:∃ e,xs[j]?=some e:=⟨_,List.getElem?_eq_getElem (by rw [← HN.out];exact hlt)⟩
   obtain ⟨gr,rfl,hgr,hes⟩:∃ gr,a=some ⟨gr,0,none⟩∧B gr∧SsAt w B gr 0 xs:=by
    rcases HX.out with hx | hx
    ·rw [hx] at he;simp at he
    ·exact hx
   obtain ⟨cs,hev,hcs⟩:=SsAt.get xs 0 (SsAt.kept HO.out (by simp) (fun _ h=>h) hgr 0 xs hes) j e he;have hfe:=lV HOK.out he;have hsz:bn e≤N:=Nat.le_trans (eM he) hN;have hb:=hst e hsz hfe;have hstep:=stB_drop (acc:=T) he;obtain ⟨k,nm,ys,nn,bd,els,p⟩:=e;have hev':=hev;unfold SV at hev';obtain ⟨va,a1,c1,a2,c2,rfl,⟨a0,c0,rfl,-⟩,-,-⟩:=hev';have x0:wr.cell? ⟨gr,j*7,none⟩=some (.int .i64 k):=by simpa using hcs 0 _ rfl
   have x1:wr.cell? ⟨gr,j*7+1,none⟩=some (.string (aj nm)):=by simpa using hcs 1 _ rfl
   have x2:wr.cell? ⟨gr,j*7+2,none⟩=some (.slice a0 ys.length c0):=by simpa using hcs 2 _ rfl
   have x3:wr.cell? ⟨gr,j*7+3,none⟩=some (.int .i64 nn):=by simpa using hcs 3 _ rfl
   have x4:wr.cell? ⟨gr,j*7+4,none⟩=some (.slice a1 bd.length c1):=by simpa using hcs 4 _ rfl
   have x5:wr.cell? ⟨gr,j*7+5,none⟩=some (.slice a2 els.length c2):=by simpa using hcs 5 _ rfl
   have x6:wr.cell? ⟨gr,j*7+6,none⟩=some (.int .i64 p):=by simpa using hcs 6 _ rfl
   obtain ⟨ee,hee⟩:∃ ee,ee=St.mk k nm ys nn bd els p:=⟨_,rfl⟩
   obtain ⟨sn,hsn⟩:∃ sn,sn=aj nm:=⟨_,rfl⟩
   obtain ⟨L0,hL0⟩:∃ L,L=ys.length:=⟨_,rfl⟩
   obtain ⟨L1,hL1⟩:∃ L,L=bd.length:=⟨_,rfl⟩
   obtain ⟨L2,hL2⟩:∃ L,L=els.length:=⟨_,rfl⟩
   rw [← hee] at hev hfe hsz hb hstep;rw [← hsn] at x1 hev;rw [← hL0] at x2 hev;rw [← hL1] at x4 hev;rw [← hL2] at x5 hev;have HEV:=Hd hev;obtain ⟨Y,hY⟩:∃ Y,Y=stS ee:=⟨_,rfl⟩
   rw [← hY] at hb hstep;have hstep2:stB 0 xs=stB (min (T+Y) 2049) (xs.drop (j+1)):=by rw [HT.out,hstep]
   have HST:=Hd hstep2;have HY:=Hd hY;clear hev hcs he hee hsn hL0 hL1 hL2 hes hY hstep hstep2;(go_upto_region 5 with (fail));obtain ⟨w5,q9,o5,hY5,-⟩:=nb wr (.cells #[.int .i64 k,.string sn,.slice a0 L0 c0,.int .i64 nn,.slice a1 L1 c1,.slice a2 L2 c2,.int .i64 p] 113);rw [← q9];clear q9;have y0:w5.cell? ⟨wr.heap.size,0,none⟩=some (.int .i64 k):=ab 0 hY5;have y1:w5.cell? ⟨wr.heap.size,1,none⟩=some (.string sn):=ab 1 hY5;have y2:w5.cell? ⟨wr.heap.size,2,none⟩=some (.slice a0 L0 c0):=ab 2 hY5;have y3:w5.cell? ⟨wr.heap.size,3,none⟩=some (.int .i64 nn):=ab 3 hY5;have y4:w5.cell? ⟨wr.heap.size,4,none⟩=some (.slice a1 L1 c1):=ab 4 hY5;have y5:w5.cell? ⟨wr.heap.size,5,none⟩=some (.slice a2 L2 c2):=ab 5 hY5;have y6:w5.cell? ⟨wr.heap.size,6,none⟩=some (.int .i64 p):=ab 6 hY5;have K1:=IS ee hsz w5 _ B hfe (HEV.out.quiet o5);rw [← HY.out] at K1;have HO5:=Hd (HO.out.trans o5 (by simp));clear o5 hY5 x0 x1 x2 x3 x4 x5 x6 hfe;(go_wp2_with fail);refine K1.mono ?_;rintro en w6 ⟨rfl,ho6⟩;have HO6:=Hd (HO5.out.trans ho6 (by simp));clear ho6 K1 y0 y1 y2 y3 y4 y5 y6
   by_cases hm:T+Y≤2049
   ·rw [Nat.min_eq_left hm] at HST;have hmm:¬ (2049:Int) < (T:Int)+(Y:Int):=by omega
    (go_wp2_with fail);refine ⟨⟨j+1,T+Y,by omega,rfl,by simp<;>omega,hm,HST,HO6⟩,?_⟩;simp [intOf];omega
   ·rw [Nat.min_eq_right (by omega)] at HST;have hmm:(2049:Int) < (T:Int)+(Y:Int):=by omega
    (go_wp2_with fail);refine ⟨⟨j+1,2049,by omega,rfl,by simp<;>omega,Nat.le_refl _,HST,HO6⟩,?_⟩;simp [intOf];omega
  ·obtain rfl:j=n:=by omega
   have hT:stB 0 xs=T:=by
    rw [HT.out,HN.out,List.drop_length];unfold stB;rfl
   have HTT:=Hd hT;clear hT;(go_wp2_with fail);go_ret;rw [HTT.out];exact ⟨rfl,HO.out⟩
end Go.Proofs.YtcebchffcmpfeaaGreat
