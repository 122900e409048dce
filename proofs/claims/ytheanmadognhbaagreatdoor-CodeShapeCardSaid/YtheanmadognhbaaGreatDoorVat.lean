import Derived.Test.YtheanmadognhbaaGreatDoorHft
import Derived.Test.YtheanmadognhbaaGreatDoorHht
import Derived.Test.YtheanmadognhbaaGreatDoorTie
import Derived.Test.YtheanmadognhbaaGreatDoorCards
import Derived.Stop.LaidErr
import Derived.SizedLaws
import Derived.ChangeVars
import Derived.ChangeMaps5
import Derived.JoinedOf
import Derived.JoinedAt
import Derived.RowKit
import Derived.RowKit3
import Derived.RowKitTokens
import Derived.LaidLaws
import Derived.SevenTiedAt
import Derived.Test.YtheanmadognhbaaGreatDoorHgt
namespace Go.Proofs.YtheanmadognhbaaGreatDoor
set_option linter.unusedVariables false
set_option linter.unusedSimpArgs false
open Go.RowKit Go.Maps
section
variable {L:List Sec} {locs:Nat} {F:Nv}
theorem re (hL:InR F.lc L locs) (t q:Nat) (lps:List Lp):∀ (xs:List E) (h:Nat),gI L xs→OkC h t locs q lps (ca F xs)
 | [],h,_=>OkC.nil _ _ _ _ _
 | x :: xs,h,hi=>by
  unfold gI at hi;unfold ca;exact OkC.app (OkC.app (pU hL h t q lps x hi.1) (OkC.one (OkI.pl (by decide)))) (re hL t q lps xs _ hi.2)
theorem rf (hL:InR F.lc L locs) (t q:Nat) (lps:List Lp):∀ (xs:List E) (h:Nat),gI L xs→OkC h t locs q lps (cG F xs)
 | [],h,_=>OkC.nil _ _ _ _ _
 | x :: xs,h,hi=>by
  unfold gI at hi;unfold cG;exact OkC.app (OkC.app (pU hL h t q lps x hi.1) (OkC.one (OkI.pl (by decide)))) (rf hL t q lps xs _ hi.2)
end
theorem genD_ok {d:Df} (hk:DfOk d) (hf:(opS CS.new d).flt=none):∃ locs:Nat,(wC d).locals=(locs:Int)∧(wC d).params=(d.params.length:Int)∧d.params.length≤locs∧OkC 0 (wC d).ins.length locs 0 (wC d).loops (wC d).ins:=by
 obtain ⟨h1,h2,h3⟩:=wJ hk.whole hk.plain hf;obtain ⟨L,hL⟩:∃ L,L=er d:=⟨_,rfl⟩
 obtain ⟨C,hC⟩:∃ C,C=ei 8 d:=⟨_,rfl⟩
 have e7:∀ nm∈ei 7 d,nm∈L:=fun nm h=>by
  rw [hL];obtain ⟨y,hy,rfl⟩:=List.mem_map.1 h;exact List.mem_append.2 (.inr (List.mem_map.2 ⟨y,(List.mem_filter.1 hy).1,rfl⟩))
 have hl:d.params.length≤L.length:=by rw [hL];show _≤(d.params++_).length;rw [List.length_append];omega
 unfold wC genC;dsimp only;rw [← hL,← hC];rw [← hL] at h1 h2 h3;rw [← hC] at h2;have r1:InR (kA L C).lc L (L.length+C.length):=fun nm h=>by
  show (0:Int)≤(oO L nm:Int)∧(oO L nm:Int) < _;have:=mw h;omega
 have r7:InR (kA L C).c7 (ei 7 d) (L.length+C.length):=fun nm h=>by
  show (0:Int)≤(oO L nm:Int)∧(oO L nm:Int) < _;have:=mw (e7 nm h);omega
 have r8:InR (kA L C).c8 C (L.length+C.length):=fun nm h=>by
  show (0:Int)≤((L.length+oO C nm:Nat):Int)∧((L.length+oO C nm:Nat):Int) < _;have:=mw h;omega
 refine ⟨L.length+C.length,rfl,rfl,by omega,?_⟩;have B:=ig r1 r7 r8 d.body (ca (kA L C) d.needs).length [] h2;generalize cC (kA L C) d.body (ca (kA L C) d.needs).length []=b at B⊢;obtain ⟨B1,-⟩:=B;have N:=re r1 (ca (kA L C) d.needs++b.1++cG (kA L C) d.give).length 0 b.2 d.needs 0 h1;have G:=rf r1 (ca (kA L C) d.needs++b.1++cG (kA L C) d.give).length 0 b.2 d.give ((ca (kA L C) d.needs).length+b.1.length) h3;refine OkC.app' ((ca (kA L C) d.needs).length+b.1.length) (by rw [List.length_append];omega) (OkC.app' (ca (kA L C) d.needs).length (by omega) N (B1.more (by rw [List.length_append,List.length_append];omega) (Nat.zero_le _) (fun _ _ h=>h))) G
open Go.ChangeShapes Go.WideShapes Go.ChangeAt Go.RowKit
def xf:List (String×DataW Unit):=[("math/bits.deBruijn32tab",Rows.laid_math_bits_deBruijn32tab),("math/bits.deBruijn64tab",Rows.laid_math_bits_deBruijn64tab),("internal/strconv.uint64pow10",Rows.laid_internal_strconv_uint64pow10)]
def mC:List (DataW Unit)→List Value
 | []=>[]
 | .lit (.int k n) :: r=>.int k n :: mC r
 | _ :: r=>mC r
def mD:DataW Unit→Array Value
 | .agg l=>(mC l).toArray
 | _=>#[]
noncomputable def lay1 (h:Array Obj) (g:Nat) (cs:Array Value):Array Obj:=h.modify g fun
 | .cells _ t frozen=>.cells cs t frozen
 | o=>o
noncomputable def laidWorld (os:Os):World:=
 let w0:=World.holding Tryz.prog os ⟨#[],#[],[]⟩
 {w0 with heap:=lay1 (lay1 (lay1 w0.heap 0 (mD Rows.laid_internal_strconv_uint64pow10)) 1 (mD Rows.laid_math_bits_deBruijn32tab)) 2 (mD Rows.laid_math_bits_deBruijn64tab) }
theorem mE (os:Os) (args:Array Value):laidMet Tryz.prog xf ((laidWorld os).forCall (fun _ _=>0) ⟨#[],args,[]⟩).memory:=
 laidMet_of_run' 8 (by kernel_rfl) (by kernel_rfl)
theorem g_pow:Tryz.prog.globalNamed "internal/strconv.uint64pow10"=some 0:=by kernel_rfl
theorem nZ {w:World} (h:laidMet Tryz.prog xf w):Tab w:=by
 have h3:laidMet Tryz.prog [("internal/strconv.uint64pow10",Lib.tabData .u64 Lib.pow10Tab)] w:=h.tail.tail;exact Lib.tabIs_of_head g_pow (by kernel_rfl) Tryz.underlying205 Tryz.underlying168 (by kernel_rfl) (by kernel_rfl) h3
end Go.Proofs.YtheanmadognhbaaGreatDoor
namespace Go.Proofs.YtheanmadognhbaaGreatDoor
set_option linter.unusedVariables false
set_option linter.unusedSimpArgs false
set_option maxRecDepth 100000
set_option maxHeartbeats 16000000
open Go.RowKit Go.Maps
def dfT (l:Sec):Df:=match bf l with | .ok d=>d | .error _=>⟨[],[],[],[],[]⟩
theorem nil_nilT (w:World):(binOp .eql 35 .nilIface .nilIface).run Tryz.prog w=.ok (.bool true) w:=by kernel_rfl
def tx:Sec:=[111,112,32,102,40,105,41,32,123,32,91,105,32,43,32,49,32,42,32,50,93,32,43,61,32,51,59,32,125]
def tz:Sec:=[111,112,32,103,40,41,32,123,32,102,111,114,32,105,32,105,110,32,48,46,46,52,32,123,32,91,105,93,32,61,32,49,59,32,125,32,125]
def txC11:Sec:=[48,32,108,111,99,97,108,32,48,10,49,32,112,117,115,104,32,50,10,50,32,100,111,32,49,10,51,32,112,117,115,104,32,51,10,52,32,97,100,100,32,48,10]
theorem parA11:bf tx=.ok (dfT tx):=by kernel_rfl
theorem parB11:bf tz=.ok (dfT tz):=by kernel_rfl
theorem codA11:fC (dfT tx)=(⟨1,1,[(2,0),(1,2),(9,1),(1,3),(6,0)],[]⟩,0):=by kernel_rfl
theorem codB11:fC (dfT tz)=(⟨0,1,[(1,0),(3,0),(2,0),(1,1),(5,0),(14,0)],[⟨0,4,2,5⟩]⟩,0):=by kernel_rfl
theorem gQ {u:Nat} (h:u < 10):Lib.itoa (u:Int)=[UInt8.ofNat (48+u)]:=by
 rw [Lib.itoa_nonneg,Lib.decDigits,dif_pos h]
theorem txtA11:da 0 [(2,0),(1,2),(9,1),(1,3),(6,0)]=txC11:=by
 have h0:=gQ (u:=0) (by decide);have h1:=gQ (u:=1) (by decide);have h2:=gQ (u:=2) (by decide);have h3:=gQ (u:=3) (by decide);have h4:=gQ (u:=4) (by decide);unfold da da da da da da mA;dsimp only;rw [show ((0:Nat):Int)=0 from rfl] at h0;rw [show ((1:Nat):Int)=1 from rfl] at h1;rw [show ((2:Nat):Int)=2 from rfl] at h2;rw [show ((3:Nat):Int)=3 from rfl] at h3;rw [show ((4:Nat):Int)=4 from rfl] at h4;rw [show ((0:Nat):Int)=0 from rfl,show ((0+1:Nat):Int)=1 from rfl,show ((0+1+1:Nat):Int)=2 from rfl,show ((0+1+1+1:Nat):Int)=3 from rfl,show ((0+1+1+1+1:Nat):Int)=4 from rfl];rw [h0,h1,h2,h3,h4];rfl
theorem eql_loop (x y:Lp) (w:World):(binOp .eql 55 (.agg #[.int .i64 x.loc,.int .i64 x.n,.int .i64 x.fr,.int .i64 x.lst]) (.agg #[.int .i64 y.loc,.int .i64 y.n,.int .i64 y.fr,.int .i64 y.lst])).run Tryz.prog w=.ok (.bool (eqL x y)) w:=by
 rw [run_eql_struct,tw,Result.andThen_ok]
theorem qd (hNC:wV) (w:World) (ht:Tab w):Calls Tryz.prog 9 #[] w fun e w'=>e=.returned (.bool true)∧Only [] w w':=by
 have HNC:=Hd hNC;have HT:=Hd ht;clear hNC ht;have KP:=kg ⟨#[111,112,32,102,40,105,41,32,123,32,91,105,32,43,32,49,32,42,32,50,93,32,43,61,32,51,59,32,125]⟩ w (by decide);have HKB:=Hd (fun W=>kg ⟨#[111,112,32,103,40,41,32,123,32,102,111,114,32,105,32,105,110,32,48,46,46,52,32,123,32,91,105,93,32,61,32,49,59,32,125,32,125]⟩ W (by decide));have e1:pdF (bf (⟨#[111,112,32,102,40,105,41,32,123,32,91,105,32,43,32,49,32,42,32,50,93,32,43,61,32,51,59,32,125]⟩:ByteArray).data.toList)=some (dfT tx):=by
  rw [show (⟨#[111,112,32,102,40,105,41,32,123,32,91,105,32,43,32,49,32,42,32,50,93,32,43,61,32,51,59,32,125]⟩:ByteArray).data.toList=tx from rfl,parA11];rfl
 have e2:pdF (bf (⟨#[111,112,32,103,40,41,32,123,32,102,111,114,32,105,32,105,110,32,48,46,46,52,32,123,32,91,105,93,32,61,32,49,59,32,125,32,125]⟩:ByteArray).data.toList)=some (dfT tz):=by
  rw [show (⟨#[111,112,32,103,40,41,32,123,32,102,111,114,32,105,32,105,110,32,48,46,46,52,32,123,32,91,105,93,32,61,32,49,59,32,125,32,125]⟩:ByteArray).data.toList=tz from rfl,parB11];rfl
 rw [e1] at KP;rw [e2] at HKB;have HOK1:=Hd (kf parA11);have HOK2:=Hd (kf parB11);have HCA:=Hd codA11;have HCB:=Hd codB11;generalize dfT tx=d1 at KP HOK1 HCA;generalize dfT tz=d2 at HKB HOK2 HCB;have HO:=Hd (Only.refl [] w);clear e1 e2
 go_enter Tryz.func9,Tryz.ntmps9
 go_wp2_with fail
 refine KP.mono ?_;rintro e wa ⟨sn1,a11,a21,a31,a41,l11,l21,l31,l41,c11,c21,c31,c41,rfl,hok,o1⟩;replace HO:=Hd (HO.out.trans o1 (by simp));(try replace HDV1:=Hd (HDV1.out.kept o1 (by simp) (fun _ h=>h)));(try replace HDV2:=Hd (HDV2.out.kept o1 (by simp) (fun _ h=>h)));(try replace HA1:=Hd (o1.heap HA1.out (by simp)));(try replace HA2:=Hd (o1.heap HA2.out (by simp)));(try replace HV1:=Hd (HV1.out.quiet o1));(try replace HV2:=Hd (HV2.out.quiet o1));(try replace HU1:=Hd (HU1.out.quiet o1));(try replace HU2:=Hd (HU2.out.quiet o1));(try replace HC1:=Hd (o1.heap HC1.out (by simp)));(try replace HC2:=Hd (o1.heap HC2.out (by simp)));have HDV1:=Hd (hok d1 rfl);clear KP hok o1;go_upto_region 2 with (fail)
 obtain ⟨w1,q9,oA,hA,-⟩:=nb wa (.cells #[.string sn1,.slice a11 l11 c11,.slice a21 l21 c21,.slice a31 l31 c31,.slice a41 l41 c41] 27);rw [← q9];clear q9;obtain ⟨gd1,hgd⟩:∃ g,g=wa.heap.size:=⟨_,rfl⟩
 rw [← hgd] at hA⊢;replace HO:=Hd (HO.out.trans oA (by simp));(try replace HDV1:=Hd (HDV1.out.kept oA (by simp) (fun _ h=>h)));(try replace HDV2:=Hd (HDV2.out.kept oA (by simp) (fun _ h=>h)));(try replace HA1:=Hd (oA.heap HA1.out (by simp)));(try replace HA2:=Hd (oA.heap HA2.out (by simp)));(try replace HV1:=Hd (HV1.out.quiet oA));(try replace HV2:=Hd (HV2.out.quiet oA));(try replace HU1:=Hd (HU1.out.quiet oA));(try replace HU2:=Hd (HU2.out.quiet oA));(try replace HC1:=Hd (oA.heap HC1.out (by simp)));(try replace HC2:=Hd (oA.heap HC2.out (by simp)));have HA1:=Hd hA;clear oA hA hgd;have KP:=HKB.out w1;go_wp2_with fail
 refine KP.mono ?_;rintro e w1a ⟨sn2,a12,a22,a32,a42,l12,l22,l32,l42,c12,c22,c32,c42,rfl,hok,o1⟩;replace HO:=Hd (HO.out.trans o1 (by simp));(try replace HDV1:=Hd (HDV1.out.kept o1 (by simp) (fun _ h=>h)));(try replace HDV2:=Hd (HDV2.out.kept o1 (by simp) (fun _ h=>h)));(try replace HA1:=Hd (o1.heap HA1.out (by simp)));(try replace HA2:=Hd (o1.heap HA2.out (by simp)));(try replace HV1:=Hd (HV1.out.quiet o1));(try replace HV2:=Hd (HV2.out.quiet o1));(try replace HU1:=Hd (HU1.out.quiet o1));(try replace HU2:=Hd (HU2.out.quiet o1));(try replace HC1:=Hd (o1.heap HC1.out (by simp)));(try replace HC2:=Hd (o1.heap HC2.out (by simp)));have HDV2:=Hd (hok d2 rfl);clear KP hok o1 HKB;go_upto_region 3 with (fail)
 obtain ⟨w2,q9,oA,hA,-⟩:=nb w1a (.cells #[.string sn2,.slice a12 l12 c12,.slice a22 l22 c22,.slice a32 l32 c32,.slice a42 l42 c42] 27);rw [← q9];clear q9;obtain ⟨gd2,hgd⟩:∃ g,g=w1a.heap.size:=⟨_,rfl⟩
 rw [← hgd] at hA⊢;replace HO:=Hd (HO.out.trans oA (by simp));(try replace HDV1:=Hd (HDV1.out.kept oA (by simp) (fun _ h=>h)));(try replace HDV2:=Hd (HDV2.out.kept oA (by simp) (fun _ h=>h)));(try replace HA1:=Hd (oA.heap HA1.out (by simp)));(try replace HA2:=Hd (oA.heap HA2.out (by simp)));(try replace HV1:=Hd (HV1.out.quiet oA));(try replace HV2:=Hd (HV2.out.quiet oA));(try replace HU1:=Hd (HU1.out.quiet oA));(try replace HU2:=Hd (HU2.out.quiet oA));(try replace HC1:=Hd (oA.heap HC1.out (by simp)));(try replace HC2:=Hd (oA.heap HC2.out (by simp)));have HA2:=Hd hA;clear oA hA hgd;have y0:w2.cell? ⟨gd1,0,none⟩=some (.string sn1):=ab 0 HA1.out;have y1:w2.cell? ⟨gd1,1,none⟩=some (.slice a11 l11 c11):=ab 1 HA1.out;have y2:w2.cell? ⟨gd1,2,none⟩=some (.slice a21 l21 c21):=ab 2 HA1.out;have y3:w2.cell? ⟨gd1,3,none⟩=some (.slice a31 l31 c31):=ab 3 HA1.out;have y4:w2.cell? ⟨gd1,4,none⟩=some (.slice a41 l41 c41):=ab 4 HA1.out;have KC:=fO HNC.out HDV1.out HOK1.out;obtain ⟨cd,hco⟩:∃ c,c=fC d1:=⟨_,rfl⟩
 rw [← hco] at KC;obtain ⟨⟨P1,Lo1,is1,ls1⟩,F1⟩:=cd;unfold qZ at KC;dsimp only at KC;obtain ⟨ev1,hev⟩:∃ v,v=errQ F1:=⟨_,rfl⟩
 rw [← hev] at KC;have HCO1:=Hd hco;have HEV1:=Hd hev;clear hco hev;go_wp2_with fail
 refine KC.mono ?_;rintro e w2c ⟨v1,u1,rfl,hv,hu,o1⟩;replace hv:=hv.rv;replace hu:=hu.rv;obtain ⟨va1,vc1,rfl,-⟩:=id hv;obtain ⟨ua1,uc1,rfl,-⟩:=id hu;replace HO:=Hd (HO.out.trans o1 (by simp));(try replace HDV1:=Hd (HDV1.out.kept o1 (by simp) (fun _ h=>h)));(try replace HDV2:=Hd (HDV2.out.kept o1 (by simp) (fun _ h=>h)));(try replace HA1:=Hd (o1.heap HA1.out (by simp)));(try replace HA2:=Hd (o1.heap HA2.out (by simp)));(try replace HV1:=Hd (HV1.out.quiet o1));(try replace HV2:=Hd (HV2.out.quiet o1));(try replace HU1:=Hd (HU1.out.quiet o1));(try replace HU2:=Hd (HU2.out.quiet o1));(try replace HC1:=Hd (o1.heap HC1.out (by simp)));(try replace HC2:=Hd (o1.heap HC2.out (by simp)));obtain ⟨vn1,hvn⟩:∃ n,n=is1.length:=⟨_,rfl⟩
 obtain ⟨un1,hun⟩:∃ n,n=ls1.length:=⟨_,rfl⟩
 rw [← hvn] at hv⊢;rw [← hun] at hu⊢;have HV1:=Hd hv;have HU1:=Hd hu;have HVN1:=Hd hvn;have HUN1:=Hd hun;clear KC o1 hv hu hvn hun y0 y1 y2 y3 y4;go_upto_region 4 with (fail)
 obtain ⟨w3,q9,oA,hA,-⟩:=nb w2c (.cells #[.int .i64 P1,.int .i64 Lo1,.slice va1 vn1 vc1,.slice ua1 un1 uc1] 33);rw [← q9];clear q9;obtain ⟨gc1,hgc⟩:∃ g,g=w2c.heap.size:=⟨_,rfl⟩
 rw [← hgc] at hA⊢;replace HO:=Hd (HO.out.trans oA (by simp));(try replace HDV1:=Hd (HDV1.out.kept oA (by simp) (fun _ h=>h)));(try replace HDV2:=Hd (HDV2.out.kept oA (by simp) (fun _ h=>h)));(try replace HA1:=Hd (oA.heap HA1.out (by simp)));(try replace HA2:=Hd (oA.heap HA2.out (by simp)));(try replace HV1:=Hd (HV1.out.quiet oA));(try replace HV2:=Hd (HV2.out.quiet oA));(try replace HU1:=Hd (HU1.out.quiet oA));(try replace HU2:=Hd (HU2.out.quiet oA));(try replace HC1:=Hd (oA.heap HC1.out (by simp)));(try replace HC2:=Hd (oA.heap HC2.out (by simp)));have HC1:=Hd hA;clear oA hA hgc;have y0:w3.cell? ⟨gd2,0,none⟩=some (.string sn2):=ab 0 HA2.out;have y1:w3.cell? ⟨gd2,1,none⟩=some (.slice a12 l12 c12):=ab 1 HA2.out;have y2:w3.cell? ⟨gd2,2,none⟩=some (.slice a22 l22 c22):=ab 2 HA2.out;have y3:w3.cell? ⟨gd2,3,none⟩=some (.slice a32 l32 c32):=ab 3 HA2.out;have y4:w3.cell? ⟨gd2,4,none⟩=some (.slice a42 l42 c42):=ab 4 HA2.out;have KC:=fO HNC.out HDV2.out HOK2.out;obtain ⟨cd,hco⟩:∃ c,c=fC d2:=⟨_,rfl⟩
 rw [← hco] at KC;obtain ⟨⟨P2,Lo2,is2,ls2⟩,F2⟩:=cd;unfold qZ at KC;dsimp only at KC;obtain ⟨ev2,hev⟩:∃ v,v=errQ F2:=⟨_,rfl⟩
 rw [← hev] at KC;have HCO2:=Hd hco;have HEV2:=Hd hev;clear hco hev;go_wp2_with fail
 refine KC.mono ?_;rintro e w3c ⟨v2,u2,rfl,hv,hu,o1⟩;replace hv:=hv.rv;replace hu:=hu.rv;obtain ⟨va2,vc2,rfl,-⟩:=id hv;obtain ⟨ua2,uc2,rfl,-⟩:=id hu;replace HO:=Hd (HO.out.trans o1 (by simp));(try replace HDV1:=Hd (HDV1.out.kept o1 (by simp) (fun _ h=>h)));(try replace HDV2:=Hd (HDV2.out.kept o1 (by simp) (fun _ h=>h)));(try replace HA1:=Hd (o1.heap HA1.out (by simp)));(try replace HA2:=Hd (o1.heap HA2.out (by simp)));(try replace HV1:=Hd (HV1.out.quiet o1));(try replace HV2:=Hd (HV2.out.quiet o1));(try replace HU1:=Hd (HU1.out.quiet o1));(try replace HU2:=Hd (HU2.out.quiet o1));(try replace HC1:=Hd (o1.heap HC1.out (by simp)));(try replace HC2:=Hd (o1.heap HC2.out (by simp)));obtain ⟨vn2,hvn⟩:∃ n,n=is2.length:=⟨_,rfl⟩
 obtain ⟨un2,hun⟩:∃ n,n=ls2.length:=⟨_,rfl⟩
 rw [← hvn] at hv⊢;rw [← hun] at hu⊢;have HV2:=Hd hv;have HU2:=Hd hu;have HVN2:=Hd hvn;have HUN2:=Hd hun;clear KC o1 hv hu hvn hun y0 y1 y2 y3 y4;go_upto_region 5 with (fail)
 obtain ⟨w4,q9,oA,hA,-⟩:=nb w3c (.cells #[.int .i64 P2,.int .i64 Lo2,.slice va2 vn2 vc2,.slice ua2 un2 uc2] 33);rw [← q9];clear q9;obtain ⟨gc2,hgc⟩:∃ g,g=w3c.heap.size:=⟨_,rfl⟩
 rw [← hgc] at hA⊢;replace HO:=Hd (HO.out.trans oA (by simp));(try replace HDV1:=Hd (HDV1.out.kept oA (by simp) (fun _ h=>h)));(try replace HDV2:=Hd (HDV2.out.kept oA (by simp) (fun _ h=>h)));(try replace HA1:=Hd (oA.heap HA1.out (by simp)));(try replace HA2:=Hd (oA.heap HA2.out (by simp)));(try replace HV1:=Hd (HV1.out.quiet oA));(try replace HV2:=Hd (HV2.out.quiet oA));(try replace HU1:=Hd (HU1.out.quiet oA));(try replace HU2:=Hd (HU2.out.quiet oA));(try replace HC1:=Hd (oA.heap HC1.out (by simp)));(try replace HC2:=Hd (oA.heap HC2.out (by simp)));have HC2:=Hd hA;clear oA hA hgc;have q1:=HCO1.out.trans HCA.out;have q2:=HCO2.out.trans HCB.out;simp only [Prod.mk.injEq,Cd.mk.injEq] at q1 q2;obtain ⟨⟨rfl,rfl,rfl,rfl⟩,rfl⟩:=q1;obtain ⟨⟨rfl,rfl,rfl,rfl⟩,rfl⟩:=q2;obtain rfl:ev1=.nilIface:=HEV1.out;obtain rfl:ev2=.nilIface:=HEV2.out;obtain rfl:vn1=5:=HVN1.out;obtain rfl:un1=0:=HUN1.out;obtain rfl:vn2=6:=HVN2.out;obtain rfl:un2=1:=HUN2.out;clear HCO1 HCO2 HEV1 HEV2 HVN1 HUN1 HVN2 HUN2 HCA HCB;have KT:=text_any 1 1 (ua:=ua1) (ul:=0) (uc:=uc1) HV1.out (by intro x hx;simp at hx;rcases hx with rfl | rfl | rfl | rfl | rfl<;>exact ⟨⟨by decide,by decide⟩,by decide,by decide⟩) (by decide) (HT.out.quiet HO.out);rw [txtA11,show ai txC11=⟨#[48,32,108,111,99,97,108,32,48,10,49,32,112,117,115,104,32,50,10,50,32,100,111,32,49,10,51,32,112,117,115,104,32,51,10,52,32,97,100,100,32,48,10]⟩ from rfl] at KT;have z0:w4.cell? ⟨gc1,0,none⟩=some (.int .i64 1):=ab 0 HC1.out;have z1:w4.cell? ⟨gc1,1,none⟩=some (.int .i64 1):=ab 1 HC1.out;have z2:w4.cell? ⟨gc1,2,none⟩=some (.slice va1 5 vc1):=ab 2 HC1.out;have z3:w4.cell? ⟨gc1,3,none⟩=some (.slice ua1 0 uc1):=ab 3 HC1.out;have y3:w4.cell? ⟨gc2,3,none⟩=some (.slice ua2 1 uc2):=ab 3 HC2.out;have q:=nil_nilT;generalize (⟨#[48,32,108,111,99,97,108,32,48,10,49,32,112,117,115,104,32,50,10,50,32,100,111,32,49,10,51,32,112,117,115,104,32,51,10,52,32,97,100,100,32,48,10]⟩:ByteArray)=S at KT⊢;go_wp2_with fail
 refine KT.mono ?_;rintro e w5 ⟨rfl,o5⟩;replace HO:=Hd (HO.out.trans o5 (by simp));(try replace HDV1:=Hd (HDV1.out.kept o5 (by simp) (fun _ h=>h)));(try replace HDV2:=Hd (HDV2.out.kept o5 (by simp) (fun _ h=>h)));(try replace HA1:=Hd (o5.heap HA1.out (by simp)));(try replace HA2:=Hd (o5.heap HA2.out (by simp)));(try replace HV1:=Hd (HV1.out.quiet o5));(try replace HV2:=Hd (HV2.out.quiet o5));(try replace HU1:=Hd (HU1.out.quiet o5));(try replace HU2:=Hd (HU2.out.quiet o5));(try replace HC1:=Hd (o5.heap HC1.out (by simp)));(try replace HC2:=Hd (o5.heap HC2.out (by simp)));clear KT o5 z0 z1 z2 z3 y3;have y3:w5.cell? ⟨gc2,3,none⟩=some (.slice ua2 1 uc2):=ab 3 HC2.out;obtain ⟨gl,ol,rfl,zc⟩:=HU2.out.at_ (i:=0) (x:=⟨0,4,2,5⟩) rfl;have z0:w5.cell? ⟨gl,ol,none⟩=some (.int .i64 0):=by have h:=zc 0 _ rfl;simpa using h
 have z1:w5.cell? ⟨gl,ol+1,none⟩=some (.int .i64 4):=by have h:=zc 1 _ rfl;simpa using h
 have z2:w5.cell? ⟨gl,ol+2,none⟩=some (.int .i64 2):=by have h:=zc 2 _ rfl;simpa using h
 have z3:w5.cell? ⟨gl,ol+3,none⟩=some (.int .i64 5):=by have h:=zc 3 _ rfl;simpa using h
 have q2:∀ W,(binOp .eql 55 (.agg #[.int .i64 0,.int .i64 4,.int .i64 2,.int .i64 5]) (.agg #[.int .i64 0,.int .i64 4,.int .i64 2,.int .i64 5])).run Tryz.prog W=.ok (.bool true) W:=fun W=>eql_loop ⟨0,4,2,5⟩ ⟨0,4,2,5⟩ W;clear zc;go_wp2_with fail
 go_ret;exact ⟨rfl,HO.out⟩
end Go.Proofs.YtheanmadognhbaaGreatDoor
