import Derived.Test.YtheanmadognhbaaGreatDoorHat
import Derived.Test.YtheanmadognhbaaGreatDoorLibAt
import Derived.Lib.AppendIntMem
import Derived.Lib.AppendStr
import Derived.Lib.ItoaLen
import Derived.Lib.LaidTab
import Derived.ChangeMaps5
namespace Go.Proofs.YtheanmadognhbaaGreatDoor
set_option linter.unusedVariables false
set_option linter.unusedSimpArgs false
set_option maxRecDepth 100000
set_option maxHeartbeats 16000000
open Go.RowKit Go.Maps
def words17:List Sec:=[[63],[112,117,115,104],[108,111,99,97,108],[107,101,101,112],[99,101,108,108],[115,101,116],[97,100,100],[115,117,98],[115,119,97,112],[100,111],[110,101,103],[110,111,116],[106,117,109,112],[122,101,114,111],[108,111,111,112],[110,101,101,100],[103,105,118,101]]
def nW (k:Int):Sec:=if 0 < k∧k < 17 then words17.getD k.toNat [] else [63]
def mA (i:Nat) (x:Ins):Sec:=Lib.itoa (i:Int)++[32]++nW x.1++[32]++Lib.itoa x.2++[10]
def da:Nat→List Ins→Sec | _,[]=>[] | i,x :: xs=>mA i x++da (i+1) xs
theorem iE:∀ (a b:List Ins) (i:Nat),da i (a++b)=da i a++da (i+a.length) b
 | [],b,i=>rfl
 | x :: a,b,i=>by
  show mA i x++da (i+1) (a++b)=(mA i x++da (i+1) a)++da (i+(x :: a).length) b;rw [iE a b (i+1),List.append_assoc,List.length_cons,show i+1+a.length=i+(a.length+1) by omega]
theorem tp {l:List Ins} {j:Nat} {x:Ins} (h:l[j]?=some x):da 0 (l.take (j+1))=da 0 (l.take j)++mA j x:=by
 have hj:j < l.length:=(List.getElem?_eq_some_iff.1 h).1;rw [List.take_add_one,h,Option.toList_some,iE];have e:0+(l.take j).length=j:=by simp;omega
 rw [e];show _++(mA j x++[])=_;rw [List.append_nil]
theorem xb (k:Int):(nW k).length≤5:=by
 unfold nW;split
 ·rename_i h;have:k=1∨k=2∨k=3∨k=4∨k=5∨k=6∨k=7∨k=8∨k=9∨k=10∨k=11∨k=12∨k=13∨k=14∨k=15∨k=16:=by omega
  rcases this with rfl | rfl | rfl | rfl | rfl | rfl | rfl | rfl | rfl | rfl | rfl | rfl | rfl | rfl | rfl | rfl<;>decide
 ·decide
theorem xe {i:Nat} {x:Ins} (hi:i≤1000000000) (hx:n64 x.2):(mA i x).length≤60:=by
 have h1:=Lib.itoa_length_le (i:Int) (by omega) (by omega);have h2:=Lib.itoa_length_le x.2 hx.1 hx.2;have h3:=xb x.1;unfold mA;simp only [List.length_append,List.length_cons,List.length_nil];omega
theorem word_any (k:Int) (w:World):Calls Tryz.prog 37 #[.int .i64 k] w fun e w'=>e=.returned (.string (ai (nW k)))∧w=w':=by
 by_cases h:0 < k∧k < 17
 ·have:k=1∨k=2∨k=3∨k=4∨k=5∨k=6∨k=7∨k=8∨k=9∨k=10∨k=11∨k=12∨k=13∨k=14∨k=15∨k=16:=by omega
  rcases this with rfl | rfl | rfl | rfl | rfl | rfl | rfl | rfl | rfl | rfl | rfl | rfl | rfl | rfl | rfl | rfl<;>clear h<;>
  ·go_enter Tryz.func37,Tryz.ntmps37
   (go_wp2_with fail);go_ret;exact ⟨rfl,rfl⟩
 ·have hw:nW k=[63]:=by unfold nW;rw [if_neg h]
  rw [hw];have e1:(k == 1)=false:=by simp;omega
  have e2:(k == 2)=false:=by simp;omega
  have e3:(k == 3)=false:=by simp;omega
  have e4:(k == 4)=false:=by simp;omega
  have e5:(k == 5)=false:=by simp;omega
  have e6:(k == 6)=false:=by simp;omega
  have e7:(k == 7)=false:=by simp;omega
  have e8:(k == 8)=false:=by simp;omega
  have e9:(k == 9)=false:=by simp;omega
  have e10:(k == 10)=false:=by simp;omega
  have e11:(k == 11)=false:=by simp;omega
  have e12:(k == 12)=false:=by simp;omega
  have e13:(k == 13)=false:=by simp;omega
  have e14:(k == 14)=false:=by simp;omega
  have e15:(k == 15)=false:=by simp;omega
  have e16:(k == 16)=false:=by simp;omega
  clear h hw
  go_enter Tryz.func37,Tryz.ntmps37
  go_wp2_with fail
  go_ret;exact ⟨rfl,rfl⟩
def Tab (w:World):Prop:=Lib.TabIs Tryz.prog w "internal/strconv.uint64pow10" .u64 Lib.pow10Tab
theorem Tab.quiet {w w':World} (h:Tab w) (o:Only [] w w'):Tab w':=Lib.tabBelow_of_tabIs h w' o.below
theorem dj {S:List Nat} {B:Nat} {a b:World} (o:Only S a b) (hS:∀ k∈S,B≤k) (hB:B≤a.heap.size):Below B a b:=
 ⟨o.os,o.tape,o.output,o.size,fun k hk=>o.block k (by omega) (fun h=>by have:=hS k h;omega)⟩
theorem j9 {B:Nat} {a b:World} {v v':Value} {l:Sec} (h:Own a B v l) (x:Ext a v b v') (hB:B≤a.heap.size):Below B a b:=
 dj x.only (fun k hk=>(h.lt (k:=k) (by simpa using hk)).1) hB
theorem own_ne {w:World} {B:Nat} {v:Value} {l:Sec} (h:Own w B v l) {k:Nat} {c:Array Value} {t:TypeId} {fr:Nat×Nat} (hk:w.heap[k]?=some (.cells c t fr)) (ht:t≠5):v.ownBlock≠some k:=fun e=>by
 rcases h.2 with ⟨rfl,_⟩ | ⟨g,cap,cur,rfl,hb,hg,r⟩
 ·cases e
 ·obtain rfl:g=k:=by simpa [Value.ownBlock] using e
  rw [hg] at hk;simp only [Option.some.injEq,Obj.cells.injEq] at hk;exact ht hk.2.1.symm
theorem mB {B:Nat} {a b:World} {v v':Value} {l:Sec} (h:Own a B v l) (x:Ext a v b v') {k:Nat} {c:Array Value} {t:TypeId} {fr:Nat×Nat} (hk:a.heap[k]?=some (.cells c t fr)) (ht:t≠5):b.heap[k]?=some (.cells c t fr):=
 x.only.heap hk (fun e=>own_ne h hk ht (by simpa using e))
theorem info_u8s:(Tryz.prog.info? 5).map (fun i=>(i.zero,i.size,i.bytes))=some (some (.int .u8 0),1,1):=by kernel_rfl
section
variable {w:World} {ops:Array Oper} {rest:List Oper} {o:Oper} {a:Act} {Q:Exit→Act→World→Prop}
theorem ik (hg:o.guard=none) (sl x:Operand) (hop:o.op=Op.call {callee:=Callee.builtin Builtin.append,args:=#[sl,x],argTypes:=#[91,9] })
  (base:Nat) (v:Value) (l:Sec) (hs:a.eval sl=v) (hown:Own w base v l) (m:Sec) (hx:a.eval x=.string (ai m)) (n:Nat) (hn:l.length+m.length=n) (lm:Sec) (hlm:l++m=lm) (hl:n≤70368744177664) (hbase:base≤w.heap.size)
  (hK:∀ a' cap w',Own w' base (.slice a' n cap) lm→Only v.ownBlock.toList w w'→wpList Tryz.prog ops Q rest (a.put o.dst (.slice a' n cap)) w') :
  wpList Tryz.prog ops Q (o :: rest) a w:=by
 subst hn;subst hlm;obtain ⟨i,hi,hz⟩:=Option.map_eq_some_iff.1 info_u8s;simp only [Prod.mk.injEq] at hz;obtain ⟨z1,z2,z3⟩:=hz;have hsz:(ai m).size=m.length:=um m;refine Lib.wpList_append_own_string w hg sl x 91 9 hop base 5 i Tryz.underlying91 Tryz.underlying9 hi z1 z2 z3 v l.length (bv l) hs hown (ai m) hx (by unfold maxLen;omega) (by omega) hbase ?_;intro v' w' h1 h2 _;have e:Lib.strCells (ai m)=bv m:=by simp [Lib.strCells,bv,ai]
 rw [hsz,e,← jd] at h1;have h3:Own w' base v' (l++m):=by unfold Own;rw [List.length_append];exact h1
 obtain ⟨a',cap,rfl,-⟩:=h3.shape;rw [List.length_append] at h3⊢;exact hK a' cap w' h3 (Only.of_grown h2)
end
abbrev TabB (B:Nat) (w:World):Prop:=Lib.TabBelow Tryz.prog B w "internal/strconv.uint64pow10" .u64 Lib.pow10Tab
theorem gP {w:World} {B:Nat} {v:Value} {T:Sec} (h:Own w B v T) (hB:B≤w.heap.size) (i:Int) (hi:n64 i) (hn:T.length≤100000000) (ht:TabB B w) (T':Sec) (hT:T++Lib.itoa i=T') :
  Calls Tryz.prog 36 #[v,.int .i64 i,.int .i64 10] w fun e w'=>∃ a c,e=.returned (.slice a T'.length c)∧Own w' B (.slice a T'.length c) T'∧Below B w w'∧Lib.OthersKept 5 none w w':=by
 subst hT;refine (Tryz.strconv_AppendInt_10 B T.length i hi.1 hi.2 v (bv T) w h hB (by omega) ht).mono ?_;rintro e w' ⟨v',rfl,h1,h2,h3⟩;have e1:Lib.byteCells (Lib.itoa i)=bv (Lib.itoa i):=rfl;rw [e1,← jd] at h1;have h4:Own w' B v' (T++Lib.itoa i):=by unfold Own;rw [List.length_append];exact h1
 obtain ⟨a,c,rfl,-⟩:=h4.shape;exact ⟨a,c,rfl,h4,h2,h3⟩
theorem text_any {w:World} {l:List Ins} {a ua:Option Addr} {L cap ul uc:Nat} (P1 P2:Int) (hv:RV rI w (.slice a L cap) l) (hin:∀ x∈l,n64 x.1∧n64 x.2) (hl:l.length≤1000000) (ht:Tab w) :
  Calls Tryz.prog 16 #[.agg #[.int .i64 P1,.int .i64 P2,.slice a L cap,.slice ua ul uc]] w fun e w'=>e=.returned (.string (ai (da 0 l)))∧Only [] w w':=by
 obtain ⟨a',cap',e0,hc⟩:=id hv;injection e0 with e1 e2 e3
 subst e1 e3;have HL:=Hd e2;have HV:=Hd hv;have HIN:=Hd hin;have hLb:L≤1000000:=by omega
 obtain ⟨R,hR⟩:∃ R,R=ai (da 0 l):=⟨_,rfl⟩
 rw [← hR];have HR:=Hd hR;have oA:Only [] w (w.alloc (.cells #[.int .i64 P1,.int .i64 P2,.slice a L cap,.slice ua ul uc] 33)):=(Only.refl _ _).alloc _;have hA:=ag w (.cells #[.int .i64 P1,.int .i64 P2,.slice a L cap,.slice ua ul uc] 33);obtain ⟨B,hB⟩:∃ B,B=w.heap.size:=⟨_,rfl⟩
 have HB:=Hd hB;have HT:=Hd (show TabB B w by rw [hB];exact Lib.tabBelow_of_tabIs ht);rw [← hB] at hA;obtain ⟨w1,hw1⟩:∃ w1,w1=w.alloc (.cells #[.int .i64 P1,.int .i64 P2,.slice a L cap,.slice ua ul uc] 33):=⟨_,rfl⟩
 rw [← hw1] at oA hA;have HW:=Hd hw1;have y2:w1.cell? ⟨B,2,none⟩=some (.slice a L cap):=ab 2 hA;have HBW:=Hd (show Below B w w1 by rw [hB];exact oA.below);have hB1:B≤w1.heap.size:=by have:=oA.size;omega
 clear hv hin hl ht hR hc hB hw1 oA hA e2
 go_enter Tryz.func16,Tryz.ntmps16
 go_upto_region 2 with (fail)
 rw [← HB.out,← HW.out];go_wp2_with fail
 clear y2
 go_loopw [3,4,9] (fun s3 s4 ix wr=>∃ (j n:Nat) (ta:Option Addr) (tc:Nat),j≤L∧ix=.int .i64 (j:Int)∧s3=.slice ta n tc∧n≤60*j∧Hid (n=(da 0 (l.take j)).length)∧Hid (Own wr B (.slice ta n tc) (da 0 (l.take j)))∧Hid (Below B w wr)∧Hid (B≤wr.heap.size)) (fun s3 s4 ix _=>L - (intOf ix).toNat)
 case atStart=>exact ⟨0,0,none,0,Nat.zero_le _,rfl,rfl,Nat.zero_le _,Hd (by rw [List.take_zero];rfl),Hd (by rw [List.take_zero];exact Own.nil _ _),HBW,Hd hB1⟩
 case round=>
  obtain ⟨j,n,ta,tc,hjn,rfl,rfl,hnj,HN,HO,HBl,HBs⟩:=hrel
  by_cases hlt:j < L
  ·have hlt':(j:Int) < (L:Int):=by omega
   have j0:(0:Int)≤(j:Int):=by omega
   obtain ⟨x,hx⟩:∃ x,l[j]?=some x:=⟨_,List.getElem?_eq_getElem (by rw [← HL.out];exact hlt)⟩
   obtain ⟨d,m⟩:=x;have hol:Only [] w wr:=Only.of_below (by rw [← HB.out];exact HBl.out);obtain ⟨a2,cap2,e2,hx2⟩:=HV.out.quiet hol;injection e2 with e2 e2b e2c
   subst e2;clear e2b e2c;obtain ⟨gr,off,rfl,hcell⟩:∃ gr off,a=some ⟨gr,off,none⟩∧∀ j' u,[Value.int .i64 d,.int .i64 m][j']?=some u→wr.cell? ⟨gr,off+j*2+j',none⟩=some u:=by
    rcases hx2 with rfl | ⟨gr,off,rfl,hh⟩
    ·simp at hx
    ·exact ⟨gr,off,rfl,fun j' u hu=>hh j _ hx j' u hu⟩
   have z0:wr.cell? ⟨gr,off+j*2,none⟩=some (.int .i64 d):=hcell 0 _ rfl;have z1:wr.cell? ⟨gr,off+j*2+1,none⟩=some (.int .i64 m):=hcell 1 _ rfl;have hnm:=HIN.out _ (List.mem_of_getElem? hx);have HTX:=Hd (tp hx);have HLN:=Hd (xe (i:=j) (x:=(d,m)) (by omega) hnm.2);have HNM:=Hd hnm.2;clear hx hol hx2 hcell hnm;(go_upto_region 5 with (fail));have oE:Only [] wr (wr.alloc (.cells #[.int .i64 d,.int .i64 m] 51)):=(Only.refl _ _).alloc _;have hE:=ag wr (.cells #[.int .i64 d,.int .i64 m] 51);obtain ⟨gi,hgi⟩:∃ g,g=wr.heap.size:=⟨_,rfl⟩
   rw [← hgi] at hE⊢;obtain ⟨T0,hT0⟩:∃ T,T=da 0 (l.take j):=⟨_,rfl⟩
   have hT0l:T0.length=n:=by rw [hT0];exact HN.out.symm
   have ho0:=HO.out;rw [← hT0] at ho0 HTX;subst hT0l;have HO1:=Hd (ho0.quiet oE);have HBl1:=Hd (HBl.out.trans (dj oE (by simp) HBs.out));have HS1:=Hd (show B≤(wr.alloc (.cells #[.int .i64 d,.int .i64 m] 51)).heap.size by have:=HBs.out;have:=oE.size;omega);have HI1:=Hd hE;obtain ⟨T1,hq1⟩:∃ T,T0++Lib.itoa (j:Int)=T:=⟨_,rfl⟩
   obtain ⟨T2,hq2⟩:∃ T,T1++[(32:UInt8)]=T:=⟨_,rfl⟩
   obtain ⟨T3,hq3⟩:∃ T,T2++nW d=T:=⟨_,rfl⟩
   obtain ⟨T4,hq4⟩:∃ T,T3++[(32:UInt8)]=T:=⟨_,rfl⟩
   obtain ⟨T5,hq5⟩:∃ T,T4++Lib.itoa m=T:=⟨_,rfl⟩
   obtain ⟨T6,hq6⟩:∃ T,T5++[(10:UInt8)]=T:=⟨_,rfl⟩
   have hq7:T6=da 0 (l.take (j+1)):=by
    rw [HTX.out,← hq6,← hq5,← hq4,← hq3,← hq2,← hq1];unfold mA;simp
   have hl6:T6.length≤60*(j+1):=by
    rw [hq7,HTX.out,List.length_append];have:=HLN.out;omega
   have l1:T0.length≤T1.length:=by rw [← hq1,List.length_append];omega
   have l2:T1.length≤T2.length:=by rw [← hq2,List.length_append];omega
   have l3:T2.length≤T3.length:=by rw [← hq3,List.length_append];omega
   have l4:T3.length≤T4.length:=by rw [← hq4,List.length_append];omega
   have l5:T4.length≤T5.length:=by rw [← hq5,List.length_append];omega
   have l6:T5.length≤T6.length:=by rw [← hq6,List.length_append];omega
   have HLL:=Hd (show T0.length≤70000000∧T1.length≤70000000∧T2.length≤70000000∧T3.length≤70000000∧T4.length≤70000000∧T5.length≤70000000∧T6.length≤70000000 by omega);have HQ1:=Hd hq1;have HQ2:=Hd hq2;have HQ3:=Hd hq3;have HQ4:=Hd hq4;have HQ5:=Hd hq5;have HQ6:=Hd hq6;have HQ7:=Hd hq7;have HL6:=Hd hl6;clear oE hE hgi hT0 ho0 HO HBl HBs HN hq1 hq2 hq3 hq4 hq5 hq6 hq7 hl6 l1 l2 l3 l4 l5 l6 z0 z1 hnj HTX HLN;generalize wr.alloc (.cells #[.int .i64 d,.int .i64 m] 51)=w5 at HO1 HBl1 HS1 HI1⊢;(go_wp2_with fail);refine (gP HO1.out HS1.out (j:Int) ⟨by omega,by omega⟩ (by have:=HLL.out;omega) (HT.out.on HBl1.out) T1 HQ1.out).mono ?_;rintro en w6 ⟨t1,c1,rfl,ho,hb,hk⟩;replace HBl1:=Hd (HBl1.out.trans hb);replace HI1:=Hd (hk _ _ HI1.out (by simp) (by simp));replace HS1:=Hd (show B≤w6.heap.size by have:=HS1.out;have:=hb.size;omega);replace HO1:=Hd ho;clear ho hb hk;have o1:Only [] w6 (w6.alloc (.cells #[.int .u8 32] 5)):=(Only.refl _ _).alloc _;have HO2:=Hd (HO1.out.quiet o1);have HI2:=Hd (o1.heap HI1.out (by simp));have HB2:=Hd (HBl1.out.trans (dj o1 (by simp) HS1.out));have HS2:=Hd (show B≤(w6.alloc (.cells #[.int .u8 32] 5)).heap.size by have:=HS1.out;have:=o1.size;omega);clear o1;go_wp2_with (refine cJ rfl (.tmp 17) (.tmp 18) rfl B _ T1 (by rfl) HO2.out _ [32] (by rfl) (je w6 32 32 rfl) T2.length (by rw [← HQ2.out,List.length_append]) T2 HQ2.out (by have:=HLL.out;omega) HS2.out ?_;intro t2 c2 w7 hh hx;have HH:=Hd (And.intro hh hx);clear hh hx;refine Hid.out ?_)
   refine Hd ?_;obtain ⟨hh,hx⟩:=HH.out;replace HBl1:=Hd (HB2.out.trans (j9 HO2.out hx HS2.out));replace HI1:=Hd (mB HO2.out hx HI2.out (by decide));replace HS1:=Hd (show B≤w7.heap.size by have:=HS2.out;have:=hx.only.size;omega);replace HO1:=Hd hh;clear hh hx HH HO2 HI2 HB2 HS2;have z0:w7.cell? ⟨gi,0,none⟩=some (.int .i64 d):=ab 0 HI1.out;(go_wp2_with fail);refine (word_any d w7).mono ?_;rintro en w7' ⟨rfl,rfl⟩;clear z0;go_wp2_with (refine ik rfl (.tmp 20) (.tmp 23) rfl B _ T2 (by rfl) HO1.out (nW d) (by rfl) T3.length (by rw [← HQ3.out,List.length_append]) T3 HQ3.out (by have:=HLL.out;omega) HS1.out ?_;intro t3 c3 w8 hh hx;have HH:=Hd (And.intro hh hx);clear hh hx;refine Hid.out ?_)
   refine Hd ?_;obtain ⟨hh,hx⟩:=HH.out;replace HBl1:=Hd (HBl1.out.trans (dj hx (fun k hk=>(HO1.out.lt (k:=k) (by simpa using hk)).1) HS1.out));replace HI1:=Hd (hx.heap HI1.out (fun e=>own_ne HO1.out HI1.out (by decide) (by simpa using e)));replace HS1:=Hd (show B≤w8.heap.size by have:=HS1.out;have:=hx.size;omega);replace HO1:=Hd hh;clear hh hx HH;have o1:Only [] w8 (w8.alloc (.cells #[.int .u8 32] 5)):=(Only.refl _ _).alloc _;have HO2:=Hd (HO1.out.quiet o1);have HI2:=Hd (o1.heap HI1.out (by simp));have HB2:=Hd (HBl1.out.trans (dj o1 (by simp) HS1.out));have HS2:=Hd (show B≤(w8.alloc (.cells #[.int .u8 32] 5)).heap.size by have:=HS1.out;have:=o1.size;omega);clear o1;go_wp2_with (refine cJ rfl (.tmp 25) (.tmp 26) rfl B _ T3 (by rfl) HO2.out _ [32] (by rfl) (je w8 32 32 rfl) T4.length (by rw [← HQ4.out,List.length_append]) T4 HQ4.out (by have:=HLL.out;omega) HS2.out ?_;intro t4 c4 w9 hh hx;have HH:=Hd (And.intro hh hx);clear hh hx;refine Hid.out ?_)
   refine Hd ?_;obtain ⟨hh,hx⟩:=HH.out;replace HBl1:=Hd (HB2.out.trans (j9 HO2.out hx HS2.out));replace HI1:=Hd (mB HO2.out hx HI2.out (by decide));replace HS1:=Hd (show B≤w9.heap.size by have:=HS2.out;have:=hx.only.size;omega);replace HO1:=Hd hh;clear hh hx HH HO2 HI2 HB2 HS2;have z1:w9.cell? ⟨gi,1,none⟩=some (.int .i64 m):=ab 1 HI1.out;(go_wp2_with fail);refine (gP HO1.out HS1.out m HNM.out (by have:=HLL.out;omega) (HT.out.on HBl1.out) T5 HQ5.out).mono ?_;rintro en wa ⟨t5,c5,rfl,ho,hb,hk⟩;replace HBl1:=Hd (HBl1.out.trans hb);replace HI1:=Hd (hk _ _ HI1.out (by simp) (by simp));replace HS1:=Hd (show B≤wa.heap.size by have:=HS1.out;have:=hb.size;omega);replace HO1:=Hd ho;clear ho hb hk z1;have o1:Only [] wa (wa.alloc (.cells #[.int .u8 10] 5)):=(Only.refl _ _).alloc _;have HO2:=Hd (HO1.out.quiet o1);have HI2:=Hd (o1.heap HI1.out (by simp));have HB2:=Hd (HBl1.out.trans (dj o1 (by simp) HS1.out));have HS2:=Hd (show B≤(wa.alloc (.cells #[.int .u8 10] 5)).heap.size by have:=HS1.out;have:=o1.size;omega);clear o1;go_wp2_with (refine cJ rfl (.tmp 32) (.tmp 33) rfl B _ T5 (by rfl) HO2.out _ [10] (by rfl) (je wa 10 10 rfl) T6.length (by rw [← HQ6.out,List.length_append]) T6 HQ6.out (by have:=HLL.out;omega) HS2.out ?_;intro t6 c6 wb hh hx;have HH:=Hd (And.intro hh hx);clear hh hx;refine Hid.out ?_)
   refine Hd ?_;obtain ⟨hh,hx⟩:=HH.out;replace HBl1:=Hd (HB2.out.trans (j9 HO2.out hx HS2.out));replace HI1:=Hd (mB HO2.out hx HI2.out (by decide));replace HS1:=Hd (show B≤wb.heap.size by have:=HS2.out;have:=hx.only.size;omega);replace HO1:=Hd hh;clear hh hx HH HO2 HI2 HB2 HS2;have HOF:=Hd (show Own wb B (.slice t6 T6.length c6) (da 0 (l.take (j+1))) by rw [← HQ7.out];exact HO1.out);have hT6:T6.length=(da 0 (l.take (j+1))).length:=by rw [HQ7.out]
   have HT6:=Hd hT6;obtain ⟨n6,hn6⟩:∃ n,n=T6.length:=⟨_,rfl⟩
   rw [← hn6] at HOF HT6 HL6⊢;clear hT6 hn6;(go_wp2_with fail);go_roundw
   case rel=>exact ⟨j+1,n6,t6,c6,by omega,by go_num,rfl,HL6.out,HT6,HOF,HBl1,HS1⟩
   case measure=>simp [intOf];omega
  ·obtain rfl:L=j:=by omega
   have ho:=HO.out;rw [HL.out,List.take_length] at ho;have hs:=tX (S:=R) ho.bytes (by rw [HR.out]);have HON:=Only.of_below (show Below w.heap.size w wr by rw [← HB.out];exact HBl.out);(go_wp2_with fail);go_ret;exact ⟨rfl,HON⟩
end Go.Proofs.YtheanmadognhbaaGreatDoor
namespace Go.Proofs.YtheanmadognhbaaGreatDoor
set_option linter.unusedVariables false
set_option linter.unusedSimpArgs false
open Go.RowKit Go.Maps
theorem p9:(Tryz.prog.fieldsOf 55).toList.map (fun f=>(f.name == "_",f.type,f.offset))=[(false,3,0),(false,3,1),(false,3,2),(false,3,3)]:=by kernel_rfl
def eqL (x y:Lp):Bool:=(x.loc == y.loc) && ((x.n == y.n) && ((x.fr == y.fr) && (x.lst == y.lst)))
theorem tw (x y:Lp) (w:World):(Op.equalIn 10000 55 (.agg #[.int .i64 x.loc,.int .i64 x.n,.int .i64 x.fr,.int .i64 x.lst]) (.agg #[.int .i64 y.loc,.int .i64 y.n,.int .i64 y.fr,.int .i64 y.lst])).run Tryz.prog w=.ok (eqL x y) w:=by
 obtain ⟨m0,m1,m2,m3⟩:=x;obtain ⟨n0,n1,n2,n3⟩:=y;have p0:∀ (a b c d:Int) w,(part 3 #[.int .i64 a,.int .i64 b,.int .i64 c,.int .i64 d] 0).run Tryz.prog w=.ok (.int .i64 a) w:=fun a b c d w=>by simp [part,isAgg,run_underlying Tryz.underlying3]
 have p1:∀ (a b c d:Int) w,(part 3 #[.int .i64 a,.int .i64 b,.int .i64 c,.int .i64 d] 1).run Tryz.prog w=.ok (.int .i64 b) w:=fun a b c d w=>by simp [part,isAgg,run_underlying Tryz.underlying3]
 have p2:∀ (a b c d:Int) w,(part 3 #[.int .i64 a,.int .i64 b,.int .i64 c,.int .i64 d] 2).run Tryz.prog w=.ok (.int .i64 c) w:=fun a b c d w=>by simp [part,isAgg,run_underlying Tryz.underlying3]
 have p3:∀ (a b c d:Int) w,(part 3 #[.int .i64 a,.int .i64 b,.int .i64 c,.int .i64 d] 3).run Tryz.prog w=.ok (.int .i64 d) w:=fun a b c d w=>by simp [part,isAgg,run_underlying Tryz.underlying3]
 rw [show (10000:Nat)=9998+2 from rfl,run_equalIn_struct w (9998+1) 55 _ _ (by kernel_rfl) (by kernel_rfl)];have hf:=p9;generalize (Tryz.prog.fieldsOf 55).toList=fs at hf⊢;rcases fs with _ | ⟨f0,_ | ⟨f1,_ | ⟨f2,_ | ⟨f3,_ | ⟨f4,r⟩⟩⟩⟩⟩
 ·simp at hf
 ·simp at hf
 ·simp at hf
 ·simp at hf
 ·simp only [List.map_cons,List.map_nil,List.cons.injEq,Prod.mk.injEq,beq_eq_false_iff_ne,ne_eq,and_true] at hf;obtain ⟨⟨a1,a2,a3⟩,⟨b1,b2,b3⟩,⟨c1,c2,c3⟩,d1,d2,d3⟩:=hf;simp only [Op.eqFields,ne_eq,a1,b1,c1,d1,not_false_eq_true,if_true,a2,a3,b2,b3,c2,c3,d2,d3,Sem.run_bind,Sem.run_ite,p0,p1,p2,p3,Result.andThen_ok,run_equalIn_int w 9998 3 .i64 .i64 _ _ Tryz.underlying3];unfold eqL;dsimp only;cases m0 == n0<;>cases m1 == n1<;>cases m2 == n2<;>cases m3 == n3<;>simp
 ·simp at hf
theorem RV.at_ {α:Type} {R:RowT α} {w:World} {a:Option Addr} {n cap:Nat} {l:List α} (h:RV R w (.slice a n cap) l) {i:Nat} {x:α} (hx:l[i]?=some x):∃ g off,a=some ⟨g,off,none⟩∧∀ j u,(R.en x)[j]?=some u→w.cell? ⟨g,off+i*R.k+j,none⟩=some u:=by
 obtain ⟨a',cap',e,h1⟩:=h;injection e with e1 e2 e3
 subst e1;rcases h1 with rfl | ⟨g,off,rfl,hh⟩
 ·simp at hx
 ·exact ⟨g,off,rfl,fun j u hu=>hh i x hx j u hu⟩
theorem RV.len_ {α:Type} {R:RowT α} {w:World} {a:Option Addr} {n cap:Nat} {l:List α} (h:RV R w (.slice a n cap) l):n=l.length:=by
 obtain ⟨a',cap',e,h1⟩:=h;injection e
end Go.Proofs.YtheanmadognhbaaGreatDoor
namespace Go.Proofs.YtheanmadognhbaaGreatDoor
set_option linter.unusedVariables false
set_option linter.unusedSimpArgs false
open Go.RowKit Go.Maps
end Go.Proofs.YtheanmadognhbaaGreatDoor
