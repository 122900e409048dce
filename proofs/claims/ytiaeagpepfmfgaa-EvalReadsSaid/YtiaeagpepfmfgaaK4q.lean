import Derived.Test.YtiaeagpepfmfgaaK3q
import Derived.Test.YtiaeagpepfmfgaaG2q
import Derived.Deep.LoopGhost
import Derived.Deep.Cut
namespace Go.Proofs.Ytiaeagpepfmfgaa
open Go.RowKit Go.Maps
set_option linter.unusedSimpArgs false
set_option linter.unusedVariables false
mutual
def sizeE:E→Nat | .mk _ _ _ xs _=>1+sizeL xs
def sizeL:List E→Nat | []=>0 | e :: es=>sizeE e+sizeL es
end
mutual
def okE:E→Prop | .mk k _ nm xs _=>nm.length≤65536∧(k=6→xs≠[])∧okL xs
def okL:List E→Prop | []=>True | e :: es=>okE e∧okL es
end
theorem okL_mem:∀ {xs:List E} {j:Nat} {e:E},okL xs→xs[j]?=some e→okE e
 | [],j,e,_,h=>by simp at h
 | x :: xs,0,e,h,hj=>by unfold okL at h;simp at hj;subst hj;exact h.1
 | x :: xs,j+1,e,h,hj=>by unfold okL at h;exact okL_mem h.2 (by simpa using hj)
theorem sizeL_mem:∀ {xs:List E} {j:Nat} {e:E},xs[j]?=some e→sizeE e≤sizeL xs
 | [],j,e,h=>by simp at h
 | x :: xs,0,e,hj=>by simp at hj;subst hj;unfold sizeL;omega
 | x :: xs,j+1,e,hj=>by have:=sizeL_mem (xs:=xs) (j:=j) (e:=e) (by simpa using hj);unfold sizeL;omega
theorem typedC_drop {s:CS} {want:Int} {xs:List E} {j:Nat} {e:E} (hj:xs[j]?=some e) :
  typedC s want (xs.drop j)=typedC (if (exprC s e).1=want then (exprC s e).2 else (exprC s e).2.fail 10 e.pos) want (xs.drop (j+1)):=by
 obtain ⟨hlt,rfl⟩:=List.getElem?_eq_some_iff.1 hj
 rw [List.drop_eq_getElem_cons hlt]
 conv=>lhs;unfold typedC
def EsO (w:World) (B:Nat→Prop) (gr off:Nat) (xs:List E):Prop:=∀ j e,xs[j]?=some e→∃ cs,EV w B e cs∧∀ c u,cs[c]?=some u→w.cell? ⟨gr,off+j*5+c,none⟩=some u
theorem EsAt.eso {w:World} {B:Nat→Prop} {gr:Nat}:∀ (xs:List E) (i off:Nat),off=i*5→EsAt w B gr i xs→EsO w B gr off xs
 | [],i,off,_,_=>fun j e h=>by simp at h
 | x :: xs,i,off,ho,h=>fun j e hj=>by
  unfold EsAt at h
  obtain ⟨⟨cs,h1,h2⟩,h3⟩:=h
  cases j with
  | zero=>
   simp at hj
   subst hj
   refine ⟨cs,h1,fun c u hc=>?_⟩
   have hlt:c < 5:=by have:=(List.getElem?_eq_some_iff.1 hc).1;rw [h1.len] at this;exact this
   rw [← hc,← h2 c hlt,ho]
   simp
  | succ j=>
   obtain ⟨cs',e1,e2⟩:=EsAt.eso xs (i+1) ((i+1)*5) rfl h3 j e (by simpa using hj)
   refine ⟨cs',e1,fun c u hc=>?_⟩
   have:=e2 c u hc
   rw [show (i+1)*5+j*5+c=off+(j+1)*5+c by omega] at this
   exact this
theorem EsO.kept {w w':World} {S:List Nat} {B:Nat→Prop} {gr off:Nat} {xs:List E} (h:EsO w B gr off xs) (ho:Only S w w') (hs:∀ k∈S,¬ B k) (hg:B gr):EsO w' B gr off xs:=fun j e hj=>by
 obtain ⟨cs,h1,h2⟩:=h j e hj
 exact ⟨cs,EV.kept ho hs (fun _ h=>h) e cs h1,fun c u hc=>cell_kept ho (h2 c u hc) (fun hk=>hs _ hk hg)⟩
def EsW (w:World) (B:Nat→Prop) (v:Value) (xs:List E):Prop:=
 ∃ (a:Option Addr) (cap:Nat),v=.slice a xs.length cap∧(xs=[]∨∃ gr off,a=some ⟨gr,off,none⟩∧B gr∧EsO w B gr off xs)
theorem EsV.esw {w:World} {B:Nat→Prop} {v:Value} {xs:List E} (h:EsV w B v xs):EsW w B v xs:=by
 obtain ⟨a,cap,rfl,_,h2⟩:=h
 refine ⟨a,cap,rfl,h2.imp id ?_⟩
 rintro ⟨gr,rfl,hb,h3⟩
 exact ⟨gr,0,rfl,hb,EsAt.eso xs 0 0 rfl h3⟩
def CExprP (N:Nat):Prop:=∀ (e:E),sizeE e≤N→∀ (w:World) (g b1 b2:Nat) (s:CS) (cs:List Value) (B:Nat→Prop),CK w g b1 b2 s→okE e→EV w B e cs→¬ B g→
 Calls Try.prog 81 #[.pointer (some ⟨g,0,none⟩),.agg cs.toArray] w fun en w'=>en=.returned (.int .i64 (exprC s e).1)∧CK w' g b1 b2 (exprC s e).2∧Only [g] w w'
def CTypedP (N:Nat):Prop:=∀ (xs:List E),sizeL xs≤N→∀ (w:World) (g b1 b2:Nat) (s:CS) (v:Value) (B:Nat→Prop) (want:Int),CK w g b1 b2 s→okL xs→EsW w B v xs→¬ B g→
 Calls Try.prog 65 #[.pointer (some ⟨g,0,none⟩),.int .i64 want,v] w fun en w'=>en=.returned (.tuple #[])∧CK w' g b1 b2 (typedC s want xs)∧Only [g] w w'
set_option maxRecDepth 100000 in
set_option maxHeartbeats 4000000 in
theorem ctyped_step (N:Nat) (hNN:N≤1000000) (IE:CExprP N):CTypedP N:=by
 intro xs hN w g b1 b2 s v B want h hok hv hB
 obtain ⟨a,cap,rfl,hx⟩:=hv
 have hlen:xs.length≤sizeL xs:=by
  clear hN hok hx
  induction xs with
  | nil=>exact Nat.le_refl _
  | cons e es ih=>
   have:1≤sizeE e:=by cases e;unfold sizeE;omega
   unfold sizeL
   simp
   omega
 have H:=Lib.hid h
 have HX:=Lib.hid hx
 have HOK:=Lib.hid hok
 clear h hx hok
 go_enter Try.func65,Try.ntmps65
 go_wp2_with fail
 obtain ⟨n,hn⟩:∃ n,n=xs.length:=⟨_,rfl⟩
 rw [← hn] at hlen⊢
 have HN:=Lib.hid hn
 clear hn
 go_loopw [10] (fun ix wr=>∃ (j:Nat) (sj:CS),j≤n∧ix=.int .i64 (j:Int)∧Hid (typedC s want xs=typedC sj want (xs.drop j))∧Hid (CK wr g b1 b2 sj)∧Hid (Only [g] w wr)) (fun ix _=>n - (intOf ix).toNat)
 case atStart=>exact ⟨0,s,Nat.zero_le _,rfl,Lib.hid (by rw [List.drop_zero]),H,Lib.hid (Only.refl _ _)⟩
 case round=>
  obtain ⟨j,sj,hjn,rfl,HT,HK,HO⟩:=hrel
  by_cases hlt:j < n
  ·have hlt':(j:Int) < (n:Int):=by omega
   have j0:(0:Int)≤(j:Int):=by omega
   obtain ⟨e,he⟩:∃ e,xs[j]?=some e:=⟨_,List.getElem?_eq_getElem (by rw [← HN.out];exact hlt)⟩
   obtain ⟨gr,off,rfl,hgr,hes⟩:∃ gr off,a=some ⟨gr,off,none⟩∧B gr∧EsO w B gr off xs:=by
    rcases HX.out with hx | hx
    ·rw [hx] at he;simp at he
    ·exact hx
   obtain ⟨cs,hev,hcs⟩:=hes.kept HO.out (by simpa using hB) hgr j e he
   obtain ⟨k,nn,nm,ys,p⟩:=e
   have hev':=hev
   unfold EV at hev'
   obtain ⟨a',cap',rfl,-,-⟩:=hev'
   have x0:wr.cell? ⟨gr,off+j*5,none⟩=some (.int .i64 k):=hcs 0 _ rfl
   have x1:wr.cell? ⟨gr,off+j*5+1,none⟩=some (.int .i64 nn):=hcs 1 _ rfl
   have x2:wr.cell? ⟨gr,off+j*5+2,none⟩=some (.string (strOf nm)):=hcs 2 _ rfl
   have x3:wr.cell? ⟨gr,off+j*5+3,none⟩=some (.slice a' ys.length cap'):=hcs 3 _ rfl
   have x4:wr.cell? ⟨gr,off+j*5+4,none⟩=some (.int .i64 p):=hcs 4 _ rfl
   obtain ⟨ee,hee⟩:∃ ee,ee=E.mk k nn nm ys p:=⟨_,rfl⟩
   obtain ⟨sn,hsn⟩:∃ sn,sn=strOf nm:=⟨_,rfl⟩
   obtain ⟨L,hL⟩:∃ L,L=ys.length:=⟨_,rfl⟩
   rw [← hee] at he hev
   rw [← hsn] at x2 hev
   rw [← hL] at x3 hev
   have HEV:=Lib.hid hev
   have HE:=Lib.hid he
   have HP:=Lib.hid (show ee.pos=p by rw [hee];rfl)
   have hsz:sizeE ee≤N:=Nat.le_trans (sizeL_mem he) hN
   have hoke:=okL_mem HOK.out he
   have HOKE:=Lib.hid hoke
   clear hev hcs he hee hsn hL hes hoke
   go_upto_region 3 with (fail)
   have o5:Only [] wr (wr.alloc (.cells #[.int .i64 k,.int .i64 nn,.string sn,.slice a' L cap',.int .i64 p] 70)):=(Only.refl _ _).alloc _
   have hY:=heap_new wr (.cells #[.int .i64 k,.int .i64 nn,.string sn,.slice a' L cap',.int .i64 p] 70)
   generalize wr.alloc (.cells #[.int .i64 k,.int .i64 nn,.string sn,.slice a' L cap',.int .i64 p] 70)=w5 at o5 hY⊢
   have y0:w5.cell? ⟨wr.heap.size,0,none⟩=some (.int .i64 k):=cell_at 0 hY
   have y1:w5.cell? ⟨wr.heap.size,1,none⟩=some (.int .i64 nn):=cell_at 1 hY
   have y2:w5.cell? ⟨wr.heap.size,2,none⟩=some (.string sn):=cell_at 2 hY
   have y3:w5.cell? ⟨wr.heap.size,3,none⟩=some (.slice a' L cap'):=cell_at 3 hY
   have y4:w5.cell? ⟨wr.heap.size,4,none⟩=some (.int .i64 p):=cell_at 4 hY
   have K1:=IE ee hsz w5 g b1 b2 sj _ B (HK.out.quiet o5) HOKE.out (HEV.out.quiet o5) hB
   have hgw:g≠wr.heap.size:=by have:=HK.out.g_lt;omega
   have HY:=Lib.hid hY
   have HO5:=Lib.hid (HO.out.trans o5 (by simp))
   obtain ⟨t,ht⟩:∃ t,t=(exprC sj ee).1:=⟨_,rfl⟩
   obtain ⟨s1,hs1⟩:∃ s1,s1=(exprC sj ee).2:=⟨_,rfl⟩
   rw [← ht,← hs1] at K1
   have hstep:typedC s want xs=typedC (if t=want then s1 else s1.fail 10 p) want (xs.drop (j+1)):=by
    rw [HT.out,typedC_drop HE.out,← ht,← hs1,HP.out]
   have HST:=Lib.hid hstep
   clear o5 hY x0 x1 x2 x3 x4 hstep ht hs1
   go_wp2_with fail
   refine K1.mono ?_
   rintro en w6 ⟨rfl,hk6,ho6⟩
   have HK6:=Lib.hid hk6
   have HO6:=Lib.hid (HO5.out.trans ho6 (fun k hk=>.inl hk))
   have HY6:=Lib.hid (ho6.heap HY.out (by simpa using fun e=>hgw e.symm))
   clear hk6 ho6 K1 y0 y1 y2 y3 y4
   by_cases heq:t=want
   ·subst heq
    rw [if_pos rfl] at HST
    go_wp2_with fail
    refine ⟨⟨j+1,s1,by omega,rfl,HST,HK6,HO6⟩,?_⟩
    simp [intOf]
    omega
   ·rw [if_neg heq] at HST
    have hne:(t != want)=true:=by simpa using heq
    have y4:w6.cell? ⟨wr.heap.size,4,none⟩=some (.int .i64 p):=cell_at 4 HY6.out
    go_wp2_with fail
    refine (cfail_any HK6.out 10 p).mono ?_
    rintro en w7 ⟨rfl,hk7,ho7⟩
    have HK7:=Lib.hid hk7
    have HO7:=Lib.hid (HO6.out.trans ho7 (fun k hk=>.inl hk))
    clear hk7 ho7 y4
    go_wp2_with fail
    refine ⟨⟨j+1,_,by omega,rfl,HST,HK7,HO7⟩,?_⟩
    simp [intOf]
    omega
  ·obtain rfl:j=n:=by omega
   have hT:=HT.out
   have hR:typedC s want xs=sj:=by
    rw [hT,HN.out,List.drop_length]
    unfold typedC
    rfl
   have HR:=Lib.hid hR
   clear hT hR
   go_wp2_with fail
   go_end0
   rw [HR.out]
   exact ⟨rfl,HK.out,HO.out⟩
end Go.Proofs.Ytiaeagpepfmfgaa
