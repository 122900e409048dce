import Derived.Test.YtcebchffcmpfeaaGreatX5t
import Derived.Test.YtcebchffcmpfeaaGreatHht
namespace Go.Proofs.YtcebchffcmpfeaaGreat
set_option linter.unusedVariables false
set_option linter.unusedSimpArgs false
set_option maxRecDepth 100000
set_option maxHeartbeats 16000000
open Go.RowKit Go.Maps
structure CV (w:World) (c:Cd) (a1:Option Addr) (n1 c1:Nat) (a2:Option Addr) (n2 c2:Nat):Prop where
 i:RV rI w (.slice a1 n1 c1) c.ins
 l:RV rL w (.slice a2 n2 c2) c.loops
 e1:n1=c.ins.length
 e2:n2=c.loops.length
 b1:n1≤65536
 b2:n2≤65536
 x1:n1≤c1
 x2:n2≤c2
section
variable {w w':World} {c:Cd} {a1 a2:Option Addr} {n1 c1 n2 c2:Nat}
theorem CV.quiet (h:CV w c a1 n1 c1 a2 n2 c2) (ho:Only [] w w'):CV w' c a1 n1 c1 a2 n2 c2:=⟨h.i.quiet ho,h.l.quiet ho,h.e1,h.e2,h.b1,h.b2,h.x1,h.x2⟩
theorem CV.loop (h:CV w c a1 n1 c1 a2 n2 c2) {j:Nat} (hj:j < n2):∃ l g o,c.loops[j]?=some l∧a2=some ⟨g,o,none⟩∧w.cell? ⟨g,o+j*4,none⟩=some (.int .i64 l.loc)∧w.cell? ⟨g,o+j*4+1,none⟩=some (.int .i64 l.n)∧
  w.cell? ⟨g,o+j*4+2,none⟩=some (.int .i64 l.fr)∧w.cell? ⟨g,o+j*4+3,none⟩=some (.int .i64 l.lst):=by
 have hl:c.loops[j]?=some (c.loops[j]'(by rw [← h.e2];exact hj)):=List.getElem?_eq_getElem _;obtain ⟨g,o,e,z⟩:=h.l.at_ hl;exact ⟨_,g,o,hl,e,z 0 _ rfl,z 1 _ rfl,z 2 _ rfl,z 3 _ rfl⟩
theorem CV.instr (h:CV w c a1 n1 c1 a2 n2 c2) {j:Nat} (hj:j < n1):∃ i g o,c.ins[j]?=some i∧a1=some ⟨g,o,none⟩∧w.cell? ⟨g,o+j*2,none⟩=some (.int .i64 i.1)∧w.cell? ⟨g,o+j*2+1,none⟩=some (.int .i64 i.2):=by
 have hl:c.ins[j]?=some (c.ins[j]'(by rw [← h.e1];exact hj)):=List.getElem?_eq_getElem _;obtain ⟨g,o,e,z⟩:=h.i.at_ hl;exact ⟨_,g,o,hl,e,z 0 _ rfl,z 1 _ rfl⟩
end
theorem mp {α:Type} {f:α→Bool} {l:List α} {j:Nat} {x:α} (h:l[j]?=some x):(l.drop j).all f=(f x && (l.drop (j+1)).all f):=by
 obtain ⟨hlt,rfl⟩:=List.getElem?_eq_some_iff.1 h;rw [List.drop_eq_getElem_cons hlt,List.all_cons]
theorem jX {α:Type} {f:Nat→α→Bool} {l:List α} {j:Nat} {x:α} (h:l[j]?=some x):mF f (l.drop j) j=(f j x && mF f (l.drop (j+1)) (j+1)):=by
 obtain ⟨hlt,rfl⟩:=List.getElem?_eq_some_iff.1 h;rw [List.drop_eq_getElem_cons hlt];rfl
theorem wI {w:World} {c:Cd} {a1 a2:Option Addr} {n1 c1 n2 c2:Nat} (h:CV w c a1 n1 c1 a2 n2 c2):Calls Tryz.prog 43 #[.agg #[.int .i64 c.params,.int .i64 c.locals,.slice a1 n1 c1,.slice a2 n2 c2]] w fun e w'=>e=.returned (.bool (fitC c))∧Only [] w w':=by
 go_enter Tryz.func43,Tryz.ntmps43
 go_upto_region 1 with (fail)
 obtain ⟨w1,q9,o1,hK,-⟩:=nb w (.cells #[.int .i64 c.params,.int .i64 c.locals,.slice a1 n1 c1,.slice a2 n2 c2] 76);rw [← q9];clear q9;obtain ⟨g,hg⟩:∃ g,g=w.heap.size:=⟨_,rfl⟩
 rw [← hg] at hK⊢;have hgl:=ak hK;have HO:=Hd o1;have HK:=Hd hK;have HC:=Hd (h.quiet o1);have b1:=h.b1;have b2:=h.b2;have HN:=Hd (And.intro h.e1 h.e2);clear h o1 hK hg;have k0:w1.cell? ⟨g,0,none⟩=some (.int .i64 c.params):=ab 0 HK.out;have k1:w1.cell? ⟨g,1,none⟩=some (.int .i64 c.locals):=ab 1 HK.out;have k2:w1.cell? ⟨g,2,none⟩=some (.slice a1 n1 c1):=ab 2 HK.out;have k3:w1.cell? ⟨g,3,none⟩=some (.slice a2 n2 c2):=ab 3 HK.out;have HF:=Hd (show fitC c=(decide (0≤c.params) && decide (c.params≤8) && decide (c.params≤c.locals) && decide (c.locals≤64) && decide ((n1:Int)≤4096) && decide ((n2:Int)≤64)) by rw [HN.out.1,HN.out.2];rfl);generalize c.params=P at *;generalize c.locals=L at *;clear HN HC HK;have hs:¬ 0≤P∨(0≤P∧¬ P≤8)∨(0≤P∧P≤8∧¬ P≤L)∨(0≤P∧P≤8∧P≤L∧¬ L≤64)∨(0≤P∧P≤8∧P≤L∧L≤64∧¬ (n1:Int)≤4096)∨(0≤P∧P≤8∧P≤L∧L≤64∧(n1:Int)≤4096∧¬ (n2:Int)≤64)∨(0≤P∧P≤8∧P≤L∧L≤64∧(n1:Int)≤4096∧(n2:Int)≤64):=by omega
 rcases hs with s1 | ⟨s1,s2⟩ | ⟨s1,s2,s3⟩ | ⟨s1,s2,s3,s4⟩ | ⟨s1,s2,s3,s4,s5⟩ | ⟨s1,s2,s3,s4,s5,s6⟩ | ⟨s1,s2,s3,s4,s5,s6⟩<;>
 ·go_wp2_with fail
  go_ret;exact ⟨am (by rw [HF.out];simp<;>omega),HO.out⟩
theorem tn {w:World} {c:Cd} {a1 a2:Option Addr} {n1 c1 n2 c2:Nat} (h:CV w c a1 n1 c1 a2 n2 c2):Calls Tryz.prog 44 #[.agg #[.int .i64 c.params,.int .i64 c.locals,.slice a1 n1 c1,.slice a2 n2 c2]] w fun e w'=>e=.returned (.bool (nK c))∧Only [] w w':=by
 obtain ⟨R,hR⟩:∃ R,R=nK c:=⟨_,rfl⟩
 rw [← hR];have HR:=Hd (show R=(c.loops.drop 0).all (lpOk c) from hR);clear hR
 go_enter Tryz.func44,Tryz.ntmps44
 go_upto_region 1 with (fail)
 obtain ⟨w1,q9,o1,hK,-⟩:=nb w (.cells #[.int .i64 c.params,.int .i64 c.locals,.slice a1 n1 c1,.slice a2 n2 c2] 76);rw [← q9];clear q9;obtain ⟨g,hg⟩:∃ g,g=w.heap.size:=⟨_,rfl⟩
 rw [← hg] at hK⊢;have hgl:=ak hK;have HO:=Hd o1;have HK:=Hd hK;have HC:=Hd (h.quiet o1);have b1:=h.b1;have b2:=h.b2;have HN:=Hd (And.intro h.e1 h.e2);clear h o1 hK hg;have k0:w1.cell? ⟨g,0,none⟩=some (.int .i64 c.params):=ab 0 HK.out;have k1:w1.cell? ⟨g,1,none⟩=some (.int .i64 c.locals):=ab 1 HK.out;have k2:w1.cell? ⟨g,2,none⟩=some (.slice a1 n1 c1):=ab 2 HK.out;have k3:w1.cell? ⟨g,3,none⟩=some (.slice a2 n2 c2):=ab 3 HK.out;go_wp2_with fail
 go_loopw [9] (fun ix wr=>∃ j:Nat,j≤n2∧ix=.int .i64 (j:Int)∧Hid (R=(c.loops.drop j).all (lpOk c))∧Hid (Only [] w1 wr)) (fun ix _=>n2 - (intOf ix).toNat)
 case atStart=>exact ⟨0,Nat.zero_le _,rfl,HR,Hd (Only.refl _ _)⟩
 case round=>
  obtain ⟨j,hjn,rfl,HT,HW⟩:=hrel;clear HR k0 k1 k2 k3;have hK:=HW.out.heap HK.out (by simp);have k0:wr.cell? ⟨g,0,none⟩=some (.int .i64 c.params):=ab 0 hK;have k1:wr.cell? ⟨g,1,none⟩=some (.int .i64 c.locals):=ab 1 hK;have k2:wr.cell? ⟨g,2,none⟩=some (.slice a1 n1 c1):=ab 2 hK;have k3:wr.cell? ⟨g,3,none⟩=some (.slice a2 n2 c2):=ab 3 hK
  by_cases hlt:j < n2
  ·have hlt':(j:Int) < (n2:Int):=by omega
   have j0:(0:Int)≤(j:Int):=by omega
   obtain ⟨l,gl,o,hl,rfl,z0,z1,z2,z3⟩:=(HC.out.quiet HW.out).loop hlt;have HT2:=Hd (HT.out.trans (mp hl));clear hl hK HT;(go_upto_region 4 with (fail));obtain ⟨w2,q9,oB,hB,-⟩:=nb wr (.cells #[.int .i64 l.loc,.int .i64 l.n,.int .i64 l.fr,.int .i64 l.lst] 54);rw [← q9];clear q9;obtain ⟨gb,hgb⟩:∃ g,g=wr.heap.size:=⟨_,rfl⟩
   rw [← hgb] at hB⊢;have y0:w2.cell? ⟨gb,0,none⟩=some (.int .i64 l.loc):=ab 0 hB;have y1:w2.cell? ⟨gb,1,none⟩=some (.int .i64 l.n):=ab 1 hB;have y2:w2.cell? ⟨gb,2,none⟩=some (.int .i64 l.fr):=ab 2 hB;have y3:w2.cell? ⟨gb,3,none⟩=some (.int .i64 l.lst):=ab 3 hB;have HW2:=Hd (HW.out.trans oB (by simp));have HB:=Hd hB;clear oB hB hgb;clear k0 k1 k2 k3 z0 z1 z2 z3;have k0:w2.cell? ⟨g,0,none⟩=some (.int .i64 c.params):=ab 0 (HW2.out.heap HK.out (by simp));have k1:w2.cell? ⟨g,1,none⟩=some (.int .i64 c.locals):=ab 1 (HW2.out.heap HK.out (by simp));have k2:w2.cell? ⟨g,2,none⟩=some (.slice a1 n1 c1):=ab 2 (HW2.out.heap HK.out (by simp));have k3:w2.cell? ⟨g,3,none⟩=some (.slice (some ⟨gl,o,none⟩) n2 c2):=ab 3 (HW2.out.heap HK.out (by simp));have KI:=jU c (.slice a1 n1 c1) (.slice (some ⟨gl,o,none⟩) n2 c2) l.loc;have HE:=Hd (show lpOk c l=(wG c l.loc && (decide (1≤l.n) && decide (l.n≤64) && decide (2≤l.fr) && decide (l.fr≤l.lst) && decide (l.lst < (n1:Int)))) by rw [HN.out.1];rfl);generalize lpOk c l=E at HE HT2;generalize wG c l.loc=B at KI HE;(go_wp2_with fail);refine (KI _).mono ?_;rintro e w3 ⟨rfl,o3⟩;replace HW:=Hd (HW2.out.trans o3 (by simp));have hB:=o3.heap HB.out (by simp);have y1:w3.cell? ⟨gb,1,none⟩=some (.int .i64 l.n):=ab 1 hB;have y2:w3.cell? ⟨gb,2,none⟩=some (.int .i64 l.fr):=ab 2 hB;have y3:w3.cell? ⟨gb,3,none⟩=some (.int .i64 l.lst):=ab 3 hB;clear k0 k1 k2 k3 KI o3 hB HB HW2;have k0:w3.cell? ⟨g,0,none⟩=some (.int .i64 c.params):=ab 0 (HW.out.heap HK.out (by simp));have k1:w3.cell? ⟨g,1,none⟩=some (.int .i64 c.locals):=ab 1 (HW.out.heap HK.out (by simp));have k2:w3.cell? ⟨g,2,none⟩=some (.slice a1 n1 c1):=ab 2 (HW.out.heap HK.out (by simp));have k3:w3.cell? ⟨g,3,none⟩=some (.slice (some ⟨gl,o,none⟩) n2 c2):=ab 3 (HW.out.heap HK.out (by simp));generalize l.n=N at *;generalize l.fr=F at *;generalize l.lst=T at *;have hs:B=false∨(B=true∧N < 1)∨(B=true∧1≤N∧64 < N)∨(B=true∧1≤N∧N≤64∧F < 2)∨(B=true∧1≤N∧N≤64∧2≤F∧T < F)∨(B=true∧1≤N∧N≤64∧2≤F∧F≤T∧(n1:Int)≤T)∨(B=true∧1≤N∧N≤64∧2≤F∧F≤T∧T < (n1:Int)):=by
    cases B
    ·exact .inl rfl
    ·refine .inr ?_;simp only [true_and];omega
   rcases hs with rfl | ⟨rfl,s1⟩ | ⟨rfl,s1,s2⟩ | ⟨rfl,s1,s2,s3⟩ | ⟨rfl,s1,s2,s3,s4⟩ | ⟨rfl,s1,s2,s3,s4,s5⟩ | ⟨rfl,s1,s2,s3,s4,s5⟩
   rotate_right
   ·have hE:E=true:=by rw [HE.out];simp;omega
    (go_wp2_with fail);go_roundw
    case rel=>exact ⟨j+1,by omega,by simp,Hd (by rw [HT2.out,hE];rfl),HW⟩
    case measure=>simp [intOf];omega
   all_goals
    have hE:E=false:=by rw [HE.out];simp<;>omega
    (go_wp2_with fail);go_ret;exact ⟨am (by rw [HT2.out,hE];rfl),HO.out.trans HW.out (by simp)⟩
  ·obtain rfl:j=n2:=by omega
   (go_wp2_with fail);go_ret;exact ⟨am (by rw [HT.out,List.drop_of_length_le (by rw [HN.out.2];exact Nat.le_refl _)];rfl),HO.out.trans HW.out (by simp)⟩
theorem tp {w:World} {c:Cd} {a1 a2:Option Addr} {n1 c1 n2 c2:Nat} (h:CV w c a1 n1 c1 a2 n2 c2) (j:Nat) (i:Ins):Calls Tryz.prog 79 #[.agg #[.int .i64 c.params,.int .i64 c.locals,.slice a1 n1 c1,.slice a2 n2 c2],.int .i64 (j:Int),.agg #[.int .i64 i.1,.int .i64 i.2]] w fun e w'=>e=.returned (.bool (dY c j i))∧Only [] w w':=by
 obtain ⟨d,n⟩:=i;dsimp only;obtain ⟨R,hR⟩:∃ R,R=dY c j (d,n):=⟨_,rfl⟩
 rw [← hR];unfold dY at hR;dsimp only at hR;rw [← h.e1,← h.e2] at hR;have KI:=fun w=>jU c (.slice a1 n1 c1) (.slice a2 n2 c2) n w;generalize wG c n=B at hR KI;have HR:=Hd hR;have HL:=Hd (fun hn:0≤n∧n < (n2:Int)=>h.loop (j:=n.toNat) (by omega));have b1:=h.b1;have b2:=h.b2;have HC:=Hd h;have HKI:=Hd KI;clear hR h KI
 go_enter Tryz.func79,Tryz.ntmps79
 go_upto_region 1 with (fail)
 obtain ⟨w1,q9,o1,hK,s1⟩:=nb w (.cells #[.int .i64 c.params,.int .i64 c.locals,.slice a1 n1 c1,.slice a2 n2 c2] 76);rw [← q9];obtain ⟨w2,q9,o2,hI,-⟩:=nb w1 (.cells #[.int .i64 d,.int .i64 n] 52);rw [← q9];clear q9;rw [s1] at hI;obtain ⟨gi,hgi⟩:∃ g,g=w.heap.size+1:=⟨_,rfl⟩
 obtain ⟨g,hg⟩:∃ g,g=w.heap.size:=⟨_,rfl⟩
 rw [← hgi] at hI⊢;rw [← hg] at hK⊢;have hK2:=o2.heap hK (by simp);have k0:w2.cell? ⟨g,0,none⟩=some (.int .i64 c.params):=ab 0 hK2;have k1:w2.cell? ⟨g,1,none⟩=some (.int .i64 c.locals):=ab 1 hK2;have k2:w2.cell? ⟨g,2,none⟩=some (.slice a1 n1 c1):=ab 2 hK2;have k3:w2.cell? ⟨g,3,none⟩=some (.slice a2 n2 c2):=ab 3 hK2;have i0:w2.cell? ⟨gi,0,none⟩=some (.int .i64 d):=ab 0 hI;have i1:w2.cell? ⟨gi,1,none⟩=some (.int .i64 n):=ab 1 hI;have HO:=Hd (o1.trans o2 (by simp));clear s1 o1 o2 hK hK2 hI hgi hg;have hs:d=2∨d=3∨d=9∨d=12∨d=13∨d=14∨(d≠2∧d≠3∧d≠9∧d≠12∧d≠13∧d≠14):=by omega
 rcases hs with rfl | rfl | rfl | rfl | rfl | rfl | ⟨e1,e2,e3,e4,e5,e6⟩
 iterate 2
  ·(go_wp2_with fail);refine (HKI.out _).mono ?_;rintro e w3 ⟨rfl,o3⟩;(go_wp2_with fail);go_ret;exact ⟨am (by rw [HR.out];rfl),HO.out.trans o3 (by simp)⟩
 ·by_cases h1:1≤n
  ·(go_wp2_with fail);go_ret;exact ⟨am (by rw [HR.out];simp<;>omega),HO.out⟩
  ·(go_wp2_with fail);go_ret;exact ⟨am (by rw [HR.out];simp<;>omega),HO.out⟩
 iterate 2
  ·by_cases h1:(j:Int) < n
   ·(go_wp2_with fail);go_ret;exact ⟨am (by rw [HR.out];simp<;>omega),HO.out⟩
   ·(go_wp2_with fail);go_ret;exact ⟨am (by rw [HR.out];simp<;>omega),HO.out⟩
 ·by_cases h1:0≤n
  ·by_cases h2:n < (n2:Int)
   ·obtain ⟨l,gl,o,hl,rfl,-,-,-,z3⟩:=HL.out ⟨h1,h2⟩;have z3':=ac HO.out z3 (by simp);have hA:lpA c n=l:=by unfold lpA;rw [List.getD_eq_getElem?_getD,hl];rfl
    rw [hA] at HR;have en:((n.toNat:Nat):Int)=n:=by omega
    clear hl z3 hA HL;(go_wp2_with fail);go_ret;refine ⟨am ?_,HO.out⟩;rw [HR.out];simp [h1,h2];rw [Bool.eq_iff_iff,beq_iff_eq,decide_eq_true_eq]
   ·(go_wp2_with fail);go_ret;exact ⟨am (by rw [HR.out];simp<;>omega),HO.out⟩
  ·(go_wp2_with fail);go_ret;exact ⟨am (by rw [HR.out];simp<;>omega),HO.out⟩
 ·have HR':=Hd (show R=(decide (1≤d) && decide (d≤16)) by rw [HR.out];simp [e1,e2,e3,e4,e5,e6]);clear HR
  by_cases h1:1≤d
  ·(go_wp2_with fail);go_ret;exact ⟨am (by rw [HR'.out];simp<;>omega),HO.out⟩
  ·(go_wp2_with fail);go_ret;exact ⟨am (by rw [HR'.out];simp<;>omega),HO.out⟩
theorem qn {w:World} {c:Cd} {a1 a2:Option Addr} {n1 c1 n2 c2:Nat} (h:CV w c a1 n1 c1 a2 n2 c2):Calls Tryz.prog 45 #[.agg #[.int .i64 c.params,.int .i64 c.locals,.slice a1 n1 c1,.slice a2 n2 c2]] w fun e w'=>e=.returned (.bool (jR c))∧Only [] w w':=by
 obtain ⟨R,hR⟩:∃ R,R=jR c:=⟨_,rfl⟩
 rw [← hR];have HR:=Hd (show R=mF (dY c) (c.ins.drop 0) 0 from hR);clear hR
 go_enter Tryz.func45,Tryz.ntmps45
 go_upto_region 1 with (fail)
 obtain ⟨w1,q9,o1,hK,-⟩:=nb w (.cells #[.int .i64 c.params,.int .i64 c.locals,.slice a1 n1 c1,.slice a2 n2 c2] 76);rw [← q9];clear q9;obtain ⟨g,hg⟩:∃ g,g=w.heap.size:=⟨_,rfl⟩
 rw [← hg] at hK⊢;have hgl:=ak hK;have HO:=Hd o1;have HK:=Hd hK;have HC:=Hd (h.quiet o1);have b1:=h.b1;have b2:=h.b2;have HN:=Hd (And.intro h.e1 h.e2);clear h o1 hK hg;have k0:w1.cell? ⟨g,0,none⟩=some (.int .i64 c.params):=ab 0 HK.out;have k1:w1.cell? ⟨g,1,none⟩=some (.int .i64 c.locals):=ab 1 HK.out;have k2:w1.cell? ⟨g,2,none⟩=some (.slice a1 n1 c1):=ab 2 HK.out;have k3:w1.cell? ⟨g,3,none⟩=some (.slice a2 n2 c2):=ab 3 HK.out;go_wp2_with fail
 go_loopw [9] (fun ix wr=>∃ j:Nat,j≤n1∧ix=.int .i64 (j:Int)∧Hid (R=mF (dY c) (c.ins.drop j) j)∧Hid (Only [] w1 wr)) (fun ix _=>n1 - (intOf ix).toNat)
 case atStart=>exact ⟨0,Nat.zero_le _,rfl,HR,Hd (Only.refl _ _)⟩
 case round=>
  obtain ⟨j,hjn,rfl,HT,HW⟩:=hrel;clear HR k0 k1 k2 k3;have hK:=HW.out.heap HK.out (by simp);have k0:wr.cell? ⟨g,0,none⟩=some (.int .i64 c.params):=ab 0 hK;have k1:wr.cell? ⟨g,1,none⟩=some (.int .i64 c.locals):=ab 1 hK;have k2:wr.cell? ⟨g,2,none⟩=some (.slice a1 n1 c1):=ab 2 hK;have k3:wr.cell? ⟨g,3,none⟩=some (.slice a2 n2 c2):=ab 3 hK
  by_cases hlt:j < n1
  ·have hlt':(j:Int) < (n1:Int):=by omega
   have j0:(0:Int)≤(j:Int):=by omega
   have hCV:=HC.out.quiet HW.out;obtain ⟨i,gl,o,hl,rfl,z0,z1⟩:=hCV.instr hlt;have HT2:=Hd (HT.out.trans (jX hl));clear hl hK HT hCV;(go_upto_region 4 with (fail));obtain ⟨w2,q9,oB,hB,-⟩:=nb wr (.cells #[.int .i64 i.1,.int .i64 i.2] 52);rw [← q9];clear q9;obtain ⟨gb,hgb⟩:∃ g,g=wr.heap.size:=⟨_,rfl⟩
   rw [← hgb] at hB⊢;have y0:w2.cell? ⟨gb,0,none⟩=some (.int .i64 i.1):=ab 0 hB;have y1:w2.cell? ⟨gb,1,none⟩=some (.int .i64 i.2):=ab 1 hB;have HW2:=Hd (HW.out.trans oB (by simp));have HB:=Hd hB;clear oB hB hgb;have KI:=tp (HC.out.quiet HW2.out) j i;clear k0 k1 k2 k3 z0 z1;have hK:=HW2.out.heap HK.out (by simp);have k0:w2.cell? ⟨g,0,none⟩=some (.int .i64 c.params):=ab 0 hK;have k1:w2.cell? ⟨g,1,none⟩=some (.int .i64 c.locals):=ab 1 hK;have k2:w2.cell? ⟨g,2,none⟩=some (.slice (some ⟨gl,o,none⟩) n1 c1):=ab 2 hK;have k3:w2.cell? ⟨g,3,none⟩=some (.slice a2 n2 c2):=ab 3 hK;generalize dY c j i=E at KI HT2;clear hK;(go_wp2_with fail);refine (KI).mono ?_;rintro e w3 ⟨rfl,o3⟩;replace HW:=Hd (HW2.out.trans o3 (by simp));clear k0 k1 k2 k3 KI o3 y0 y1 HB HW2;cases E with
   | true=>
    (go_wp2_with fail);go_roundw
    case rel=>exact ⟨j+1,by omega,by simp,Hd (by rw [HT2.out];rfl),HW⟩
    case measure=>simp [intOf];omega
   | false=>
    (go_wp2_with fail);go_ret;exact ⟨am (by rw [HT2.out];rfl),HO.out.trans HW.out (by simp)⟩
  ·obtain rfl:j=n1:=by omega
   (go_wp2_with fail);go_ret;exact ⟨am (by rw [HT.out,List.drop_of_length_le (by rw [HN.out.1];exact Nat.le_refl _)];rfl),HO.out.trans HW.out (by simp)⟩
theorem eql_ins (x y:Ins) (w:World):(binOp .eql 52 (.agg #[.int .i64 x.1,.int .i64 x.2]) (.agg #[.int .i64 y.1,.int .i64 y.2])).run Tryz.prog w=.ok (.bool (eqI x y)) w:=by
 rw [run_eql_struct,jV,Result.andThen_ok]
theorem mq (x y:Ins):eqI x y=decide (x=y):=by rw [Bool.eq_iff_iff,eqI_iff,decide_eq_true_eq]
theorem any_drop {α:Type} {f:α→Bool} {l:List α} {j:Nat} {x:α} (h:l[j]?=some x):(l.drop j).any f=(f x || (l.drop (j+1)).any f):=by
 obtain ⟨hlt,rfl⟩:=List.getElem?_eq_some_iff.1 h;rw [List.drop_eq_getElem_cons hlt,List.any_cons]
theorem tq {w:World} {a:Option Addr} {n cap:Nat} {l:List Ins} (h:RV rI w (.slice a n cap) l) (hn:n≤65536) (x:Ins) :
  Calls Tryz.prog 108 #[.slice a n cap,.agg #[.int .i64 x.1,.int .i64 x.2]] w fun e w'=>∃ r:Int,e=.returned (.int .i64 r)∧decide (0≤r)=l.any (fun i=>decide (i=x))∧Only [] w w':=by
 have hl:=h.len_;obtain ⟨R,hR⟩:∃ R,R=(l.drop 0).any (fun i=>decide (i=x)):=⟨_,rfl⟩
 have hR':l.any (fun i=>decide (i=x))=R:=hR.symm;rw [hR'];have HR:=Hd hR;have HL:=Hd hl;have HV:=Hd h;clear hR hR' hl h
 go_enter Tryz.func108,Tryz.ntmps108
 go_upto_region 1 with (fail)
 obtain ⟨w1,q9,o1,hK,-⟩:=nb w (.cells #[.int .i64 x.1,.int .i64 x.2] 52);rw [← q9];clear q9;obtain ⟨g,hg⟩:∃ g,g=w.heap.size:=⟨_,rfl⟩
 rw [← hg] at hK⊢;have HO:=Hd o1;have HK:=Hd hK;clear o1 hK hg;go_wp2_with fail
 go_loopw [8] (fun ix wr=>∃ j:Nat,j≤n∧ix=.int .i64 (j:Int)∧Hid (R=(l.drop j).any (fun i=>decide (i=x)))∧Hid (Only [] w1 wr)) (fun ix _=>n - (intOf ix).toNat)
 case atStart=>exact ⟨0,Nat.zero_le _,rfl,HR,Hd (Only.refl _ _)⟩
 case round=>
  obtain ⟨j,hjn,rfl,HT,HW⟩:=hrel;clear HR;have hK:=HW.out.heap HK.out (by simp);have x0:wr.cell? ⟨g,0,none⟩=some (.int .i64 x.1):=ab 0 hK;have x1:wr.cell? ⟨g,1,none⟩=some (.int .i64 x.2):=ab 1 hK
  by_cases hlt:j < n
  ·have hlt':(j:Int) < (n:Int):=by omega
   have j0:(0:Int)≤(j:Int):=by omega
   obtain ⟨i,hi⟩:∃ i,l[j]?=some i:=⟨_,List.getElem?_eq_getElem (by rw [← HL.out];exact hlt)⟩
   obtain ⟨gl,o,rfl,z⟩:=(HV.out.quiet (HO.out.trans HW.out (by simp))).at_ hi;have z0:wr.cell? ⟨gl,o+j*2,none⟩=some (.int .i64 i.1):=z 0 _ rfl;have z1:wr.cell? ⟨gl,o+j*2+1,none⟩=some (.int .i64 i.2):=z 1 _ rfl;have HT2:=Hd (HT.out.trans (any_drop hi));have NQ:=eql_ins x i;have e:decide (i=x)=eqI x i:=by rw [mq,Bool.eq_iff_iff,decide_eq_true_eq,decide_eq_true_eq];exact eq_comm
   rw [e] at HT2;clear hi hK HT z e;generalize eqI x i=E at NQ HT2;cases E with
   | true=>
    go_wp2_with fail
    go_quiet (fail)
    (go_wp2_with fail);go_ret;refine ⟨_,rfl,?_,HO.out.trans (HW.out.trans (bU (S:=[]) (Only.refl _ _)) (by simp)) (by simp)⟩;rw [HT2.out];simp
   | false=>
    go_wp2_with fail
    go_quiet (fail)
    (go_wp2_with fail);go_roundw
    case rel=>exact ⟨j+1,by omega,by simp,Hd (by rw [HT2.out];rfl),Hd (HW.out.trans (bU (S:=[]) (Only.refl _ _)) (by simp))⟩
    case measure=>simp [intOf];omega
  ·obtain rfl:j=n:=by omega
   (go_wp2_with fail);go_ret;refine ⟨_,rfl,?_,HO.out.trans HW.out (by simp)⟩;rw [HT.out,List.drop_of_length_le (by rw [HL.out];exact Nat.le_refl _)];rfl
theorem mr {w:World} {a:Option Addr} {n cap:Nat} {l:List Ins} (h:RV rI w (.slice a n cap) l) (hn:n≤65536) (x:Ins) :
  Calls Tryz.prog 80 #[.slice a n cap,.agg #[.int .i64 x.1,.int .i64 x.2]] w fun e w'=>e=.returned (.bool (l.any (fun i=>decide (i=x))))∧Only [] w w':=by
 have HK:=Hd (fun w' (ho:Only [] w w')=>tq (h.quiet ho) hn x);generalize l.any (fun i=>decide (i=x))=R at *;clear h
 go_enter Tryz.func80,Tryz.ntmps80
 go_upto_region 1 with (fail)
 obtain ⟨w1,q9,o1,hK,-⟩:=nb w (.cells #[.int .i64 x.1,.int .i64 x.2] 52);rw [← q9];clear q9;have x0:=ab 0 hK;have x1:=ab 1 hK;have x0:w1.cell? ⟨w.heap.size,0,none⟩=some (.int .i64 x.1):=ab 0 hK;have x1:w1.cell? ⟨w.heap.size,1,none⟩=some (.int .i64 x.2):=ab 1 hK;have HO:=Hd o1;have K:=HK.out w1 o1;clear hK o1 HK;go_wp2_with fail
 refine K.mono ?_;rintro e w2 ⟨r,rfl,hr,o2⟩;have HR:=Hd hr;clear hr;go_wp2_with fail
 go_ret;exact ⟨am HR.out,HO.out.trans o2 (by simp)⟩
theorem RV.part {α:Type} {R:RowT α} {w:World} {g o n cap:Nat} {l:List α} (h:RV R w (.slice (some ⟨g,o,none⟩) n cap) l) {i j:Nat} (hij:i≤j) (hj:j≤n) (cap':Nat):RV R w (.slice (some ⟨g,o+i*R.k,none⟩) (j - i) cap') ((l.take j).drop i):=by
 have hl:=h.len_;refine ⟨some ⟨g,o+i*R.k,none⟩,cap',?_,.inr ⟨g,o+i*R.k,rfl,fun m x hm k u hu=>?_⟩⟩
 ·rw [List.length_drop,List.length_take,← hl,show min j n=j by omega]
 ·rw [List.getElem?_drop] at hm;have hlt:i+m < j:=by
   have:=(List.getElem?_eq_some_iff.1 hm).1;rw [List.length_take] at this;omega
  rw [List.getElem?_take,if_pos hlt] at hm;obtain ⟨g',o',e,z⟩:=h.at_ hm;injection e with e
  injection e with e1 e2 _
  subst e1 e2;have:=z k u hu
  rwa [show o+(i+m)*R.k+k=o+i*R.k+m*R.k+k by rw [Nat.add_mul];omega] at this
end Go.Proofs.YtcebchffcmpfeaaGreat
