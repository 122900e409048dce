import Derived.Test.YtiaeagpepfmfgaaK5q
import Derived.Test.YtiaeagpepfmfgaaG10q
namespace Go.Proofs.Ytiaeagpepfmfgaa
open Go.RowKit Go.Maps
set_option linter.unusedSimpArgs false
set_option linter.unusedVariables false
def St.kind:St→Int | .mk k _ _ _ _ _ _=>k
def CS.bump (s:CS) (k:Int):CS:={s with ki:=fun j=>if (j:Int)=k then wrap64 (s.ki j+1) else s.ki j }
mutual
def stmtC:CS→St→CS
 | s,.mk k nm xs n bd els p=>
  if k=1 then (match xs with | []=>s | x :: _=>(exprC s x).2.declare nm (exprC s x).1 p)
  else if k=6 then (stmtsC ((stmtsC (typedC s 2 xs) bd).forget (typedC s 2 xs).decl.length) els).forget ((stmtsC (typedC s 2 xs) bd).forget (typedC s 2 xs).decl.length).decl.length
  else if k=7∨k=8 then (stmtsC (if 64 < n then (s.declare nm 1 p).fail 11 p else s.declare nm 1 p) bd).forget s.decl.length
  else typedC s 1 xs
def stmtsC:CS→List St→CS
 | s,[]=>s
 | s,x :: xs=>stmtsC (stmtC (s.bump x.kind) x) xs
end
mutual
def sizeS:St→Nat | .mk _ _ xs _ bd els _=>1+sizeL xs+sizeSs bd+sizeSs els
def sizeSs:List St→Nat | []=>0 | e :: es=>sizeS e+sizeSs es
end
mutual
def okS:St→Prop | .mk k nm xs n bd els _=>1≤k∧k≤8∧nm.length≤65536∧(k=1→xs≠[])∧okL xs∧okSs bd∧okSs els
def okSs:List St→Prop | []=>True | e :: es=>okS e∧okSs es
end
theorem okSs_mem:∀ {xs:List St} {j:Nat} {e:St},okSs xs→xs[j]?=some e→okS e
 | [],j,e,_,h=>by simp at h
 | x :: xs,0,e,h,hj=>by unfold okSs at h;simp at hj;subst hj;exact h.1
 | x :: xs,j+1,e,h,hj=>by unfold okSs at h;exact okSs_mem h.2 (by simpa using hj)
theorem sizeSs_mem:∀ {xs:List St} {j:Nat} {e:St},xs[j]?=some e→sizeS e≤sizeSs xs
 | [],j,e,h=>by simp at h
 | x :: xs,0,e,hj=>by simp at hj;subst hj;unfold sizeSs;omega
 | x :: xs,j+1,e,hj=>by have:=sizeSs_mem (xs:=xs) (j:=j) (e:=e) (by simpa using hj);unfold sizeSs;omega
theorem sizeSs_len:∀ xs:List St,xs.length≤sizeSs xs
 | []=>Nat.le_refl _
 | e :: es=>by
  have:=sizeSs_len es
  have:1≤sizeS e:=by cases e;unfold sizeS;omega
  unfold sizeSs
  simp
  omega
theorem stmtsC_drop {s:CS} {xs:List St} {j:Nat} {e:St} (hj:xs[j]?=some e):stmtsC s (xs.drop j)=stmtsC (stmtC (s.bump e.kind) e) (xs.drop (j+1)):=by
 obtain ⟨hlt,rfl⟩:=List.getElem?_eq_some_iff.1 hj
 rw [List.drop_eq_getElem_cons hlt]
 conv=>lhs;unfold stmtsC
theorem SsAt.get {w:World} {B:Nat→Prop} {gr:Nat}:∀ (xs:List St) (i:Nat),SsAt w B gr i xs→∀ j e,xs[j]?=some e→∃ cs,SV w B e cs∧∀ c u,cs[c]?=some u→w.cell? ⟨gr,(i+j)*7+c,none⟩=some u
 | [],i,_=>fun j e h=>by simp at h
 | x :: xs,i,h=>fun j e hj=>by
  unfold SsAt at h
  obtain ⟨⟨cs,h1,h2⟩,h3⟩:=h
  cases j with
  | zero=>
   simp at hj
   subst hj
   refine ⟨cs,h1,fun c u hc=>?_⟩
   have hlt:c < 7:=by have:=(List.getElem?_eq_some_iff.1 hc).1;rw [h1.len] at this;exact this
   rw [← hc,← h2 c hlt]
   simp
  | succ j=>
   obtain ⟨cs',e1,e2⟩:=SsAt.get xs (i+1) h3 j e (by simpa using hj)
   refine ⟨cs',e1,fun c u hc=>?_⟩
   have:=e2 c u hc
   rw [show i+1+j=i+(j+1) by omega] at this
   exact this
def CStmtP (N:Nat):Prop:=∀ (e:St),sizeS e≤N→∀ (w:World) (g b1 b2:Nat) (s:CS) (cs:List Value) (B:Nat→Prop),CK w g b1 b2 s→okS e→SV w B e cs→(∀ k∈[g,b1,b2],¬ B k)→
 Calls Try.prog 82 #[.pointer (some ⟨g,0,none⟩),.agg cs.toArray] w fun en w'=>en=.returned (.tuple #[])∧CK w' g b1 b2 (stmtC s e)∧Only [g,b1,b2] w w'
def CStmtsP (N:Nat):Prop:=∀ (xs:List St),sizeSs xs≤N→∀ (w:World) (g b1 b2:Nat) (s:CS) (v:Value) (B:Nat→Prop),CK w g b1 b2 s→okSs xs→SsV w B v xs→(∀ k∈[g,b1,b2],¬ B k)→
 Calls Try.prog 66 #[.pointer (some ⟨g,0,none⟩),v] w fun en w'=>en=.returned (.tuple #[])∧CK w' g b1 b2 (stmtsC s xs)∧Only [g,b1,b2] w w'
theorem ck_kind {w:World} {g b1 b2:Nat} {s:CS} {fv:Option Addr} (h:w.heap[g]?=some (.cells (ckCells b1 b2 s fv) 112 (0,0))) {k:Nat} (hk:k < 9):w.cell? ⟨g,2+k,none⟩=some (.int .i64 (s.ki k)):=by
 rw [cell_at _ h]
 match k,hk with
 | 0,_=>rfl
 | 1,_=>rfl
 | 2,_=>rfl
 | 3,_=>rfl
 | 4,_=>rfl
 | 5,_=>rfl
 | 6,_=>rfl
 | 7,_=>rfl
 | 8,_=>rfl
theorem ck_bump {b1 b2:Nat} {s:CS} {fv:Option Addr} {k:Nat} (hk:k < 9):(ckCells b1 b2 s fv).setIfInBounds (2+k) (.int .i64 (wrap64 (s.ki k+1)))=ckCells b1 b2 (s.bump k) fv:=by
 match k,hk with
 | 0,_=>simp [ckCells,CS.bump]
 | 1,_=>simp [ckCells,CS.bump]
 | 2,_=>simp [ckCells,CS.bump]
 | 3,_=>simp [ckCells,CS.bump]
 | 4,_=>simp [ckCells,CS.bump]
 | 5,_=>simp [ckCells,CS.bump]
 | 6,_=>simp [ckCells,CS.bump]
 | 7,_=>simp [ckCells,CS.bump]
 | 8,_=>simp [ckCells,CS.bump]
set_option maxRecDepth 100000 in
set_option maxHeartbeats 4000000 in
theorem cstmts_step (N:Nat) (hNN:N≤1000000) (IS:CStmtP N):CStmtsP N:=by
 intro xs hN w g b1 b2 s v B h hok hv hB
 obtain ⟨a,cap,rfl,-,hx⟩:=hv
 have hlen:=sizeSs_len xs
 have H:=Lib.hid h
 have HX:=Lib.hid hx
 have HOK:=Lib.hid hok
 have HB:=Lib.hid hB
 clear h hx hok hB
 go_enter Try.func66,Try.ntmps66
 go_wp2_with fail
 obtain ⟨n,hn⟩:∃ n,n=xs.length:=⟨_,rfl⟩
 rw [← hn] at hlen⊢
 have HN:=Lib.hid hn
 clear hn
 go_loopw [8] (fun ix wr=>∃ (j:Nat) (sj:CS),j≤n∧ix=.int .i64 (j:Int)∧Hid (stmtsC s xs=stmtsC sj (xs.drop j))∧Hid (CK wr g b1 b2 sj)∧Hid (Only [g,b1,b2] w wr)) (fun ix _=>n - (intOf ix).toNat)
 case atStart=>exact ⟨0,s,Nat.zero_le _,rfl,Lib.hid (by rw [List.drop_zero]),H,Lib.hid (Only.refl _ _)⟩
 case round=>
  obtain ⟨j,sj,hjn,rfl,HT,HK,HO⟩:=hrel
  by_cases hlt:j < n
  ·have hlt':(j:Int) < (n:Int):=by omega
   have j0:(0:Int)≤(j:Int):=by omega
   obtain ⟨e,he⟩:∃ e,xs[j]?=some e:=⟨_,List.getElem?_eq_getElem (by rw [← HN.out];exact hlt)⟩
   obtain ⟨gr,rfl,hgr,hes⟩:∃ gr,a=some ⟨gr,0,none⟩∧B gr∧SsAt w B gr 0 xs:=by
    rcases HX.out with hx | hx
    ·rw [hx] at he;simp at he
    ·exact hx
   obtain ⟨cs,hev,hcs⟩:=SsAt.get xs 0 (SsAt.kept HO.out HB.out (fun _ h=>h) hgr 0 xs hes) j e he
   obtain ⟨k,nm,ys,nn,bd,els,p⟩:=e
   have hoke:=okSs_mem HOK.out he
   have hev':=hev
   unfold SV at hev'
   obtain ⟨va,a1,c1,a2,c2,rfl,⟨a0,c0,rfl,-⟩,-,-⟩:=hev'
   have x0:wr.cell? ⟨gr,j*7,none⟩=some (.int .i64 k):=by simpa using hcs 0 _ rfl
   have x1:wr.cell? ⟨gr,j*7+1,none⟩=some (.string (strOf nm)):=by simpa using hcs 1 _ rfl
   have x2:wr.cell? ⟨gr,j*7+2,none⟩=some (.slice a0 ys.length c0):=by simpa using hcs 2 _ rfl
   have x3:wr.cell? ⟨gr,j*7+3,none⟩=some (.int .i64 nn):=by simpa using hcs 3 _ rfl
   have x4:wr.cell? ⟨gr,j*7+4,none⟩=some (.slice a1 bd.length c1):=by simpa using hcs 4 _ rfl
   have x5:wr.cell? ⟨gr,j*7+5,none⟩=some (.slice a2 els.length c2):=by simpa using hcs 5 _ rfl
   have x6:wr.cell? ⟨gr,j*7+6,none⟩=some (.int .i64 p):=by simpa using hcs 6 _ rfl
   obtain ⟨kk,hkk,hk9⟩:∃ kk:Nat,k=(kk:Int)∧kk < 9:=by
    unfold okS at hoke
    exact ⟨k.toNat,by omega,by omega⟩
   obtain ⟨ee,hee⟩:∃ ee,ee=St.mk k nm ys nn bd els p:=⟨_,rfl⟩
   have hkd:ee.kind=(kk:Int):=by rw [hee,← hkk];rfl
   obtain ⟨sn,hsn⟩:∃ sn,sn=strOf nm:=⟨_,rfl⟩
   obtain ⟨L0,hL0⟩:∃ L,L=ys.length:=⟨_,rfl⟩
   obtain ⟨L1,hL1⟩:∃ L,L=bd.length:=⟨_,rfl⟩
   obtain ⟨L2,hL2⟩:∃ L,L=els.length:=⟨_,rfl⟩
   rw [← hee] at he hev hoke
   rw [← hsn] at x1 hev
   rw [← hL0] at x2 hev
   rw [← hL1] at x4 hev
   rw [← hL2] at x5 hev
   have HEV:=Lib.hid hev
   have HE:=Lib.hid he
   have HKD:=Lib.hid hkd
   have HOKE:=Lib.hid hoke
   have hsz:sizeS ee≤N:=Nat.le_trans (sizeSs_mem he) hN
   rw [hkk] at x0 HEV
   clear hev hcs he hee hsn hL0 hL1 hL2 hes hoke hkd hkk
   go_upto_region 3 with (fail)
   have o5:Only [] wr (wr.alloc (.cells #[.int .i64 (kk:Int),.string sn,.slice a0 L0 c0,.int .i64 nn,.slice a1 L1 c1,.slice a2 L2 c2,.int .i64 p] 102)):=(Only.refl _ _).alloc _
   have hY:=heap_new wr (.cells #[.int .i64 (kk:Int),.string sn,.slice a0 L0 c0,.int .i64 nn,.slice a1 L1 c1,.slice a2 L2 c2,.int .i64 p] 102)
   generalize wr.alloc (.cells #[.int .i64 (kk:Int),.string sn,.slice a0 L0 c0,.int .i64 nn,.slice a1 L1 c1,.slice a2 L2 c2,.int .i64 p] 102)=w5 at o5 hY⊢
   have oD:=o5.drew
   have hY':=(Only.refl [] w5).drew.heap hY (by simp)
   have hk5:=HK.out.quiet oD
   obtain ⟨fv,h1,h2⟩:=hk5.row
   have y0:w5.drew.cell? ⟨wr.heap.size,0,none⟩=some (.int .i64 (kk:Int)):=cell_at 0 hY'
   have ck:w5.drew.cell? ⟨g,2+kk,none⟩=some (.int .i64 (sj.ki kk)):=ck_kind h1 hk9
   have gk:=free_at (2+kk) h1
   have k0:(0:Int)≤(kk:Int):=by omega
   have k9:(kk:Int) < 9:=by omega
   have HY:=Lib.hid hY'
   have HK5:=Lib.hid hk5
   have HO5:=Lib.hid (HO.out.trans oD (by simp))
   have HOD:=Lib.hid oD
   have H1:=Lib.hid h1
   have H2:=Lib.hid h2
   clear o5 hY hY' hk5 h1 h2 oD x0 x1 x2 x3 x4 x5 x6
   go_still_tail 11,(by kernel_rfl)
   change wpList _ _ _ _ _ w5.drew
   generalize w5.drew=w6 at y0 ck gk HY HK5 HO5 HOD H1 H2⊢
   have y1:w6.cell? ⟨wr.heap.size,1,none⟩=some (.string sn):=cell_at 1 HY.out
   have y2:w6.cell? ⟨wr.heap.size,2,none⟩=some (.slice a0 L0 c0):=cell_at 2 HY.out
   have y3:w6.cell? ⟨wr.heap.size,3,none⟩=some (.int .i64 nn):=cell_at 3 HY.out
   have y4:w6.cell? ⟨wr.heap.size,4,none⟩=some (.slice a1 L1 c1):=cell_at 4 HY.out
   have y5:w6.cell? ⟨wr.heap.size,5,none⟩=some (.slice a2 L2 c2):=cell_at 5 HY.out
   have y6:w6.cell? ⟨wr.heap.size,6,none⟩=some (.int .i64 p):=cell_at 6 HY.out
   have hgw:g≠wr.heap.size:=by have:=HK.out.g_lt;omega
   go_upto_region 4 with (fail)
   have oz:Only [g] w6 (w6.setCell ⟨g,2+kk,none⟩ (.int .i64 (wrap64 (sj.ki kk+1)))):=(Only.refl _ _).setCell (.inl (by simp)) _
   have hk7:CK (w6.setCell ⟨g,2+kk,none⟩ (.int .i64 (wrap64 (sj.ki kk+1)))) g b1 b2 (sj.bump (kk:Int)):=by
    refine HK5.out.turn (fv:=fv) oz ?_ (H2.out.kept oz (fun k hk=>HK5.out.no_flt k (by simp only [List.mem_singleton] at hk;simp [hk]))) rfl rfl
    have:=heap_cell (i:=2+kk) (.int .i64 (wrap64 (sj.ki kk+1))) H1.out
    rw [ck_bump hk9] at this
    exact this
   have hY7:=oz.heap HY.out (by simpa using fun e=>hgw e.symm)
   generalize w6.setCell ⟨g,2+kk,none⟩ (.int .i64 (wrap64 (sj.ki kk+1)))=w7 at oz hk7 hY7⊢
   have ho7:=HO5.out.trans oz (fun k hk=>.inl (by simp only [List.mem_singleton] at hk;simp [hk]))
   have hev7:=SV.kept (w':=w7) ((HOD.out.mono (T:=[g]) (by simp)).trans oz (fun k hk=>.inl hk)) (fun k hk=>HB.out k (by simp only [List.mem_singleton] at hk;simp [hk])) (fun _ h=>h) ee _ HEV.out
   have K1:=IS ee hsz w7 g b1 b2 _ _ B hk7 HOKE.out hev7 HB.out
   have y0:w7.cell? ⟨wr.heap.size,0,none⟩=some (.int .i64 (kk:Int)):=cell_at 0 hY7
   have y1:w7.cell? ⟨wr.heap.size,1,none⟩=some (.string sn):=cell_at 1 hY7
   have y2:w7.cell? ⟨wr.heap.size,2,none⟩=some (.slice a0 L0 c0):=cell_at 2 hY7
   have y3:w7.cell? ⟨wr.heap.size,3,none⟩=some (.int .i64 nn):=cell_at 3 hY7
   have y4:w7.cell? ⟨wr.heap.size,4,none⟩=some (.slice a1 L1 c1):=cell_at 4 hY7
   have y5:w7.cell? ⟨wr.heap.size,5,none⟩=some (.slice a2 L2 c2):=cell_at 5 hY7
   have y6:w7.cell? ⟨wr.heap.size,6,none⟩=some (.int .i64 p):=cell_at 6 hY7
   have hstep:stmtsC s xs=stmtsC (stmtC (sj.bump (kk:Int)) ee) (xs.drop (j+1)):=by
    rw [HT.out,stmtsC_drop HE.out,HKD.out]
   have HST:=Lib.hid hstep
   have HO7:=Lib.hid ho7
   clear oz hk7 hY7 ho7 hev7 hstep ck gk
   go_wp2_with fail
   refine K1.mono ?_
   rintro en w8 ⟨rfl,hk8,ho8⟩
   have HK8:=Lib.hid hk8
   have HO8:=Lib.hid (HO7.out.trans ho8 (fun k hk=>.inl hk))
   clear hk8 ho8 K1 y0 y1 y2 y3 y4 y5 y6
   go_wp2_with fail
   refine ⟨⟨j+1,_,by omega,rfl,HST,HK8,HO8⟩,?_⟩
   simp [intOf]
   omega
  ·obtain rfl:j=n:=by omega
   have hT:=HT.out
   have hR:stmtsC s xs=sj:=by
    rw [hT,HN.out,List.drop_length]
    unfold stmtsC
    rfl
   have HR:=Lib.hid hR
   clear hT hR
   go_wp2_with fail
   go_end0
   rw [HR.out]
   exact ⟨rfl,HK.out,HO.out⟩
end Go.Proofs.Ytiaeagpepfmfgaa
