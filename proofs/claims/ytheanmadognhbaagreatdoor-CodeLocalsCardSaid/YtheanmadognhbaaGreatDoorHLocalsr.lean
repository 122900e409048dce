/- Layer 11: parameters are an operation's first locals, and a code that is only parameters, added up, pushes them in order. -/
import Derived.Test.YtheanmadognhbaaGreatDoorH26r
import Derived.Test.YtheanmadognhbaaGreatDoorUcr
import Derived.Test.YtheanmadognhbaaGreatDoorHCLr
import Derived.Test.YtheanmadognhbaaGreatDoorHhr
namespace Go.Proofs.YtheanmadognhbaaGreatDoor
open Go.ChangeShapes Go.WideShapes Go.ChangeAt Go.RowKit Go.Maps
open Go.ChangeMaps (open_string shut_string)
set_option linter.unusedSimpArgs false
set_option linter.unusedVariables false
def pN (i:Nat):Sec:=[112,UInt8.ofNat (48+i)]
def parT:Nat→Sec | 0=>[] | i+1=>(if i=0 then [] else parT i++[44,32])++pN i
def sumT:Nat→Sec | 0=>[] | i+1=>(if i=0 then [] else sumT i++[32,43,32])++pN i
def txtL (m:Nat):Sec:=[111,112,32,111,40]++parT m++[41,32,123,32,103,105,118,101,32]++sumT m++[59,32,125]
def insL:Nat→List Ins | 0=>[] | i+1=>if i=0 then [(2,0)] else insL i++[(2,(i:Int)),(9,1)]
def chkL:List Ins→Int→Bool | [],_=>true | x :: xs,n=>if x.1=2 then decide (x.2=n) && chkL xs (n+1) else chkL xs n
def endL:List Ins→Int→Int | [],n=>n | x :: xs,n=>if x.1=2 then endL xs (n+1) else endL xs n
theorem caseL:∀ m:Nat,m < 8→parseS (txtL (m+1))=.ok (dfT (txtL (m+1)))∧codeOf (dfT (txtL (m+1)))=(⟨((m+1:Nat):Int),((m+1:Nat):Int),insL (m+1)++[(16,0)],[]⟩,0)∧
  (insL (m+1)++[(16,0)]).length=2*(m+1)∧(insL (m+1)++[(16,0)])[2*m+1]?=some (16,0)∧chkL (insL (m+1)++[(16,0)]) 0=true∧endL (insL (m+1)++[(16,0)]) 0=((m+1:Nat):Int)
 | 0,_=>⟨by kernel_rfl,by kernel_rfl,by decide,by decide,by decide,by decide⟩
 | 1,_=>⟨by kernel_rfl,by kernel_rfl,by decide,by decide,by decide,by decide⟩
 | 2,_=>⟨by kernel_rfl,by kernel_rfl,by decide,by decide,by decide,by decide⟩
 | 3,_=>⟨by kernel_rfl,by kernel_rfl,by decide,by decide,by decide,by decide⟩
 | 4,_=>⟨by kernel_rfl,by kernel_rfl,by decide,by decide,by decide,by decide⟩
 | 5,_=>⟨by kernel_rfl,by kernel_rfl,by decide,by decide,by decide,by decide⟩
 | 6,_=>⟨by kernel_rfl,by kernel_rfl,by decide,by decide,by decide,by decide⟩
 | 7,_=>⟨by kernel_rfl,by kernel_rfl,by decide,by decide,by decide,by decide⟩
 | m+8,h=>absurd h (by omega)
theorem mod_nat8 (x:Int):∃ n:Nat,n < 8∧IntKind.i64.wrap ((IntKind.u64.wrap x).tmod 8)=(n:Int):=by
 have h:0≤IntKind.u64.wrap x:=by rw [IntKind.wrap_u64];omega
 rw [Int.tmod_eq_emod_of_nonneg h]
 generalize hy:(IntKind.u64.wrap x) % 8=y
 refine ⟨y.toNat,by omega,?_⟩
 rw [IntKind.wrap_i64]
 omega
theorem parT_len:∀ i:Nat,(parT i).length≤4*i
 | 0=>by simp [parT]
 | i+1=>by
  have:=parT_len i
  unfold parT pN
  split<;>simp<;>omega
theorem sumT_len:∀ i:Nat,(sumT i).length≤5*i
 | 0=>by simp [sumT]
 | i+1=>by
  have:=sumT_len i
  unfold sumT pN
  split<;>simp<;>omega
set_option maxRecDepth 100000 in
set_option maxHeartbeats 2000000 in
theorem codeLocals_walk (n:Int) (w:World) (hn:(Lit.int .i64 n).wf=true) (ht:Tab w):Calls Tryz.prog 8 #[.int .i64 n] w fun e w'=>e=.returned (.bool true)∧Only [] w w':=by
 have KA:=alive11_any names_any w ht
 have HNC:=Hd names_any
 obtain ⟨m,hm,hme⟩:=mod_nat8 n
 obtain ⟨M,hM⟩:∃ M,M=m+1:=⟨_,rfl⟩
 have e1:IntKind.i64.wrap (1+(m:Int))=(M:Int):=by rw [IntKind.wrap_i64];omega
 have HM:=Hd (And.intro hm hM)
 have hM8:M≤8:=by omega
 have hM1:1≤M:=by omega
 clear hm hM
 go_enter Tryz.func8,Tryz.ntmps8
 go_wp2_with fail
 refine KA.mono ?_
 rintro e w1 ⟨rfl,o1⟩
 have HO:=Hd o1
 clear KA o1 ht
 go_upto_region 4 with (fail)
 clear e1 hme
 go_wp2_with fail
 go_loopw [3,4,5] (fun ps ss ix wr=>∃ j:Nat,j≤M∧ix=.int .i64 (j:Int)∧Hid (ps=.string (strOf (parT j)))∧Hid (ss=.string (strOf (sumT j)))∧Hid (Only [] w wr)) (fun _ _ ix _=>M - (intOf ix).toNat)
 case atStart=>exact ⟨0,Nat.zero_le _,rfl,Hd rfl,Hd rfl,HO⟩
 case round=>
  obtain ⟨j,hjn,rfl,HPS,HSS,HOj⟩:=hrel
  have hps:=HPS.out
  have hss:=HSS.out
  subst hps
  subst hss
  clear HPS HSS HO
  by_cases hlt:j < M
  ·have hlt':(j:Int) < (M:Int):=by omega
   have hp1:=parT_len j
   have hs1:=sumT_len j
   have KD:=fun W=>decimal_all (i:=(j:Int)) W (by unfold n64;omega)
   have qn:=fun w=>add_str (a:=[112]) (b:=Lib.itoa (j:Int)) (c:=pN j) (by rw [itoa_dig (show j < 10 by omega)];rfl) (by simp [pN]) (A:=⟨#[112]⟩) rfl rfl rfl w
   generalize strOf (Lib.itoa (j:Int))=D at KD qn
   by_cases h0:j=0
   ·subst h0
    have qp:=fun w=>add_str (a:=parT 0) (b:=pN 0) (c:=parT (0+1)) rfl (by simp [parT,pN]) rfl rfl rfl w
    have qs:=fun w=>add_str (a:=sumT 0) (b:=pN 0) (c:=sumT (0+1)) rfl (by simp [sumT,pN]) rfl rfl rfl w
    generalize strOf (pN 0)=PN at qn qp qs
    generalize strOf (parT 0)=P0 at qp⊢
    generalize strOf (sumT 0)=S0 at qs⊢
    obtain ⟨P1,hP1⟩:∃ P,P=strOf (parT (0+1)):=⟨_,rfl⟩
    obtain ⟨S1,hS1⟩:∃ P,P=strOf (sumT (0+1)):=⟨_,rfl⟩
    rw [← hP1] at qp
    rw [← hS1] at qs
    have HPX:=Hd (And.intro hP1 hS1)
    clear hP1 hS1 hp1 hs1
    go_wp2_with fail
    refine (KD _).mono ?_
    rintro e w2 ⟨rfl,o2⟩
    go_wp2_with fail
    refine (KD _).mono ?_
    rintro e w3 ⟨rfl,o3⟩
    have HO3:=Hd ((HOj.out.trans o2 (by simp)).trans o3 (by simp))
    clear o2 o3
    go_wp2_with fail
    refine ⟨⟨0+1,by omega,by simp,Hd (by rw [← HPX.out.1]),Hd (by rw [← HPX.out.2]),HO3⟩,?_⟩
    simp [intOf]
    omega
   ·have hj0:(0:Int) < (j:Int):=by omega
    have qx:=fun w=>add_str (a:=parT j) (b:=[44,32]) (c:=parT j++[44,32]) rfl (by rw [List.length_append];simp;omega) rfl (B:=⟨#[44,32]⟩) rfl rfl w
    have qy:=fun w=>add_str (a:=sumT j) (b:=[32,43,32]) (c:=sumT j++[32,43,32]) rfl (by rw [List.length_append];simp;omega) rfl (B:=⟨#[32,43,32]⟩) rfl rfl w
    have qp:=fun w=>add_str (a:=parT j++[44,32]) (b:=pN j) (c:=parT (j+1)) (by show _=(if j=0 then [] else parT j++[44,32])++pN j;rw [if_neg h0]) (by have:=parT_len (j+1);omega) rfl rfl rfl w
    have qs:=fun w=>add_str (a:=sumT j++[32,43,32]) (b:=pN j) (c:=sumT (j+1)) (by show _=(if j=0 then [] else sumT j++[32,43,32])++pN j;rw [if_neg h0]) (by have:=sumT_len (j+1);omega) rfl rfl rfl w
    generalize strOf (pN j)=PN at qn qp qs
    generalize strOf (parT j++[44,32])=PX at qx qp
    generalize strOf (sumT j++[32,43,32])=SX at qy qs
    generalize strOf (parT j)=P0 at qx⊢
    generalize strOf (sumT j)=S0 at qy⊢
    obtain ⟨P1,hP1⟩:∃ P,P=strOf (parT (j+1)):=⟨_,rfl⟩
    obtain ⟨S1,hS1⟩:∃ P,P=strOf (sumT (j+1)):=⟨_,rfl⟩
    rw [← hP1] at qp
    rw [← hS1] at qs
    have HPX:=Hd (And.intro hP1 hS1)
    clear hP1 hS1 hp1 hs1
    go_wp2_with fail
    refine (KD _).mono ?_
    rintro e w2 ⟨rfl,o2⟩
    go_wp2_with fail
    refine (KD _).mono ?_
    rintro e w3 ⟨rfl,o3⟩
    have HO3:=Hd ((HOj.out.trans o2 (by simp)).trans o3 (by simp))
    clear o2 o3
    go_wp2_with fail
    refine ⟨⟨j+1,by omega,by simp,Hd (by rw [← HPX.out.1]),Hd (by rw [← HPX.out.2]),HO3⟩,?_⟩
    simp [intOf]
    omega
  ·obtain rfl:j=M:=by omega
   replace HO:=HOj
   clear HOj
   have hp1:=parT_len j
   have hs1:=sumT_len j
   have qa:=fun w=>add_str (a:=[111,112,32,111,40]) (b:=parT j) (c:=[111,112,32,111,40]++parT j) rfl (by rw [List.length_append];simp;omega) (A:=⟨#[111,112,32,111,40]⟩) rfl rfl rfl w
   have qb:=fun w=>add_str (a:=[111,112,32,111,40]++parT j) (b:=[41,32,123,32,103,105,118,101,32]) (c:=[111,112,32,111,40]++parT j++[41,32,123,32,103,105,118,101,32]) rfl (by simp only [List.length_append,List.length_cons,List.length_nil];omega) rfl (B:=⟨#[41,32,123,32,103,105,118,101,32]⟩) rfl rfl w
   have qc:=fun w=>add_str (a:=[111,112,32,111,40]++parT j++[41,32,123,32,103,105,118,101,32]) (b:=sumT j) (c:=[111,112,32,111,40]++parT j++[41,32,123,32,103,105,118,101,32]++sumT j) rfl (by simp only [List.length_append,List.length_cons,List.length_nil];omega) rfl rfl rfl w
   have hlT:(txtL j).length≤1000:=by unfold txtL;simp only [List.length_append,List.length_cons,List.length_nil];omega
   have qd:=fun w=>add_str (a:=[111,112,32,111,40]++parT j++[41,32,123,32,103,105,118,101,32]++sumT j) (b:=[59,32,125]) (c:=txtL j) rfl (by omega) rfl (B:=⟨#[59,32,125]⟩) rfl rfl w
   have KP:=parsedF_any (strOf (txtL j)) wr (by rw [strOf_len];omega)
   obtain ⟨c1,c2,c3,c4,c5,c6⟩:=caseL m HM.out.1
   have hjm:m+1=j:=HM.out.2.symm
   rw [hjm] at c1 c2 c3 c4 c5 c6
   have e1:pdF (parseS (strOf (txtL j)).data.toList)=some (dfT (txtL j)):=by
    rw [show (strOf (txtL j)).data.toList=txtL j by simp [strOf],c1]
    rfl
   rw [e1] at KP
   have HOK1:=Hd (ok_parsed c1)
   have HC2:=Hd c2
   have HC:=Hd (And.intro c3 (And.intro c4 (And.intro c5 c6)))
   generalize dfT (txtL j)=d1 at KP HOK1 HC2
   generalize strOf (txtL j)=T4 at KP qd
   generalize strOf ([111,112,32,111,40]++parT j++[41,32,123,32,103,105,118,101,32]++sumT j)=T3 at qc qd
   generalize strOf ([111,112,32,111,40]++parT j++[41,32,123,32,103,105,118,101,32])=T2 at qb qc
   generalize strOf ([111,112,32,111,40]++parT j)=T1 at qa qb
   generalize strOf (parT j)=P0 at qa⊢
   generalize strOf (sumT j)=S0 at qc⊢
   clear c1 c2 c3 c4 c5 c6 hp1 hs1 e1 hlT hjm
   go_wp2_with fail
   refine KP.mono ?_
   rintro e wra ⟨sn1,a11,a21,a31,a41,l11,l21,l31,l41,c11,c21,c31,c41,rfl,hok,o1⟩
   replace HO:=Hd (HO.out.trans o1 (by simp))
   (try replace HDV1:=Hd (HDV1.out.kept o1 (by simp) (fun _ h=>h)))
   (try replace HDV2:=Hd (HDV2.out.kept o1 (by simp) (fun _ h=>h)))
   (try replace HA1:=Hd (o1.heap HA1.out (by simp)))
   (try replace HA2:=Hd (o1.heap HA2.out (by simp)))
   (try replace HV1:=Hd (HV1.out.quiet o1))
   (try replace HV2:=Hd (HV2.out.quiet o1))
   (try replace HU1:=Hd (HU1.out.quiet o1))
   (try replace HU2:=Hd (HU2.out.quiet o1))
   (try replace HC1:=Hd (o1.heap HC1.out (by simp)))
   (try replace HC2:=Hd (o1.heap HC2.out (by simp)))
   have HDV1:=Hd (hok d1 rfl)
   clear KP hok o1 qa qb qc qd
   go_upto_region 14 with (fail)
   have oA:=(Only.refl [] wra).alloc (.cells #[.string sn1,.slice a11 l11 c11,.slice a21 l21 c21,.slice a31 l31 c31,.slice a41 l41 c41] 27)
   have hA:=heap_new wra (.cells #[.string sn1,.slice a11 l11 c11,.slice a21 l21 c21,.slice a31 l31 c31,.slice a41 l41 c41] 27)
   obtain ⟨gd1,hgd⟩:∃ g,g=wra.heap.size:=⟨_,rfl⟩
   rw [← hgd] at hA⊢
   generalize wra.alloc (.cells #[.string sn1,.slice a11 l11 c11,.slice a21 l21 c21,.slice a31 l31 c31,.slice a41 l41 c41] 27)=w2 at oA hA⊢
   replace HO:=Hd (HO.out.trans oA (by simp))
   (try replace HDV1:=Hd (HDV1.out.kept oA (by simp) (fun _ h=>h)))
   (try replace HDV2:=Hd (HDV2.out.kept oA (by simp) (fun _ h=>h)))
   (try replace HA1:=Hd (oA.heap HA1.out (by simp)))
   (try replace HA2:=Hd (oA.heap HA2.out (by simp)))
   (try replace HV1:=Hd (HV1.out.quiet oA))
   (try replace HV2:=Hd (HV2.out.quiet oA))
   (try replace HU1:=Hd (HU1.out.quiet oA))
   (try replace HU2:=Hd (HU2.out.quiet oA))
   (try replace HC1:=Hd (oA.heap HC1.out (by simp)))
   (try replace HC2:=Hd (oA.heap HC2.out (by simp)))
   have HA1:=Hd hA
   clear oA hA hgd
   have y0:w2.cell? ⟨gd1,0,none⟩=some (.string sn1):=cell_at 0 HA1.out
   have y1:w2.cell? ⟨gd1,1,none⟩=some (.slice a11 l11 c11):=cell_at 1 HA1.out
   have y2:w2.cell? ⟨gd1,2,none⟩=some (.slice a21 l21 c21):=cell_at 2 HA1.out
   have y3:w2.cell? ⟨gd1,3,none⟩=some (.slice a31 l31 c31):=cell_at 3 HA1.out
   have y4:w2.cell? ⟨gd1,4,none⟩=some (.slice a41 l41 c41):=cell_at 4 HA1.out
   have KC:=compile_any HNC.out HDV1.out HOK1.out
   obtain ⟨cd,hco⟩:∃ c,c=codeOf d1:=⟨_,rfl⟩
   rw [← hco] at KC
   obtain ⟨⟨P1,Lo1,is1,ls1⟩,F1⟩:=cd
   unfold CoPost at KC
   dsimp only at KC
   obtain ⟨ev1,hev⟩:∃ v,v=errQ F1:=⟨_,rfl⟩
   rw [← hev] at KC
   have HCO1:=Hd hco
   have HEV1:=Hd hev
   clear hco hev
   go_wp2_with fail
   refine KC.mono ?_
   rintro e w2c ⟨v1,u1,rfl,hv,hu,o1⟩
   replace hv:=hv.rv
   replace hu:=hu.rv
   obtain ⟨va1,vc1,rfl,-⟩:=id hv
   obtain ⟨ua1,uc1,rfl,-⟩:=id hu
   replace HO:=Hd (HO.out.trans o1 (by simp))
   (try replace HDV1:=Hd (HDV1.out.kept o1 (by simp) (fun _ h=>h)))
   (try replace HDV2:=Hd (HDV2.out.kept o1 (by simp) (fun _ h=>h)))
   (try replace HA1:=Hd (o1.heap HA1.out (by simp)))
   (try replace HA2:=Hd (o1.heap HA2.out (by simp)))
   (try replace HV1:=Hd (HV1.out.quiet o1))
   (try replace HV2:=Hd (HV2.out.quiet o1))
   (try replace HU1:=Hd (HU1.out.quiet o1))
   (try replace HU2:=Hd (HU2.out.quiet o1))
   (try replace HC1:=Hd (o1.heap HC1.out (by simp)))
   (try replace HC2:=Hd (o1.heap HC2.out (by simp)))
   obtain ⟨vn1,hvn⟩:∃ n,n=is1.length:=⟨_,rfl⟩
   obtain ⟨un1,hun⟩:∃ n,n=ls1.length:=⟨_,rfl⟩
   rw [← hvn] at hv⊢
   rw [← hun] at hu⊢
   have HV1:=Hd hv
   have HU1:=Hd hu
   have HVN1:=Hd hvn
   have HUN1:=Hd hun
   clear KC o1 hv hu hvn hun y0 y1 y2 y3 y4
   go_upto_region 15 with (fail)
   have oA:=(Only.refl [] w2c).alloc (.cells #[.int .i64 P1,.int .i64 Lo1,.slice va1 vn1 vc1,.slice ua1 un1 uc1] 33)
   have hA:=heap_new w2c (.cells #[.int .i64 P1,.int .i64 Lo1,.slice va1 vn1 vc1,.slice ua1 un1 uc1] 33)
   obtain ⟨gc1,hgc⟩:∃ g,g=w2c.heap.size:=⟨_,rfl⟩
   rw [← hgc] at hA⊢
   generalize w2c.alloc (.cells #[.int .i64 P1,.int .i64 Lo1,.slice va1 vn1 vc1,.slice ua1 un1 uc1] 33)=w3 at oA hA⊢
   replace HO:=Hd (HO.out.trans oA (by simp))
   (try replace HDV1:=Hd (HDV1.out.kept oA (by simp) (fun _ h=>h)))
   (try replace HDV2:=Hd (HDV2.out.kept oA (by simp) (fun _ h=>h)))
   (try replace HA1:=Hd (oA.heap HA1.out (by simp)))
   (try replace HA2:=Hd (oA.heap HA2.out (by simp)))
   (try replace HV1:=Hd (HV1.out.quiet oA))
   (try replace HV2:=Hd (HV2.out.quiet oA))
   (try replace HU1:=Hd (HU1.out.quiet oA))
   (try replace HU2:=Hd (HU2.out.quiet oA))
   (try replace HC1:=Hd (oA.heap HC1.out (by simp)))
   (try replace HC2:=Hd (oA.heap HC2.out (by simp)))
   have HC1:=Hd hA
   clear oA hA hgc
   have hco:=HCO1.out.trans HC2.out
   simp only [Prod.mk.injEq,Cd.mk.injEq] at hco
   obtain ⟨⟨rfl,rfl,rfl,rfl⟩,rfl⟩:=hco
   obtain rfl:ev1=.nilIface:=HEV1.out
   have hvn:vn1=2*j:=HVN1.out.trans HC.out.1
   have b1:((vn1:Int) != 2*(j:Int))=false:=by rw [hvn];simp
   have b2:IntKind.i64.wrap (2*(j:Int))=2*(j:Int):=by rw [IntKind.wrap_i64];omega
   have q1:=neq_nil0
   have z0:w3.cell? ⟨gc1,0,none⟩=some (.int .i64 (j:Int)):=cell_at 0 HC1.out
   have z1:w3.cell? ⟨gc1,1,none⟩=some (.int .i64 (j:Int)):=cell_at 1 HC1.out
   have z2:w3.cell? ⟨gc1,2,none⟩=some (.slice va1 vn1 vc1):=cell_at 2 HC1.out
   have HVN:=Hd hvn
   clear hvn
   go_wp2_with fail
   clear z0 z1 z2 q1 b1
   generalize hIS:insL j++[(16,0)]=is1 at HV1 HVN1 HC
   have HIS:=Hd hIS
   clear hIS
   go_loopw [10,85] (fun av ix wr=>∃ (q:Nat) (c:Int),q≤vn1∧ix=.int .i64 (q:Int)∧av=.int .i64 c∧0≤c∧c≤(q:Int)∧Hid (chkL (is1.drop q) c=true)∧Hid (endL (is1.drop q) c=(j:Int))∧Hid (Only [] w3 wr)) (fun _ ix _=>vn1 - (intOf ix).toNat)
   case atStart=>exact ⟨0,0,Nat.zero_le _,rfl,rfl,Int.le_refl _,Int.le_refl _,Hd HC.out.2.2.1,Hd HC.out.2.2.2,Hd (Only.refl _ _)⟩
   case round=>
    obtain ⟨q,c,hqn,rfl,rfl,hc0,hcq,HCK,HEN,HOj⟩:=hrel
    by_cases hlt:q < vn1
    ·have hlt':(q:Int) < (vn1:Int):=by omega
     have q0:(0:Int)≤(q:Int):=by omega
     have hqb:(q:Int)≤100:=by have:=HVN.out;omega
     obtain ⟨⟨xd,xn⟩,hx⟩:∃ e,is1[q]?=some e:=⟨_,List.getElem?_eq_getElem (by rw [← HVN1.out];exact hlt)⟩
     obtain ⟨gv,ov,rfl,zc⟩:=(HV1.out.quiet HOj.out).at_ hx
     have y0:wr.cell? ⟨gv,ov+q*2,none⟩=some (.int .i64 xd):=by have h:wr.cell? ⟨gv,ov+q*2+0,none⟩=_:=zc 0 _ rfl;simpa using h
     have y1:wr.cell? ⟨gv,ov+q*2+1,none⟩=some (.int .i64 xn):=zc 1 _ rfl
     have hdr:is1.drop q=(xd,xn) :: is1.drop (q+1):=by
      obtain ⟨h1,h2⟩:=List.getElem?_eq_some_iff.1 hx
      rw [List.drop_eq_getElem_cons h1,h2]
     have hck:=HCK.out
     have hen:=HEN.out
     rw [hdr] at hck hen
     unfold chkL at hck
     unfold endL at hen
     dsimp only at hck hen
     clear zc hx hdr HCK HEN
     by_cases h2:xd=2
     ·rw [if_pos h2] at hck hen
      subst h2
      simp only [Bool.and_eq_true,decide_eq_true_eq] at hck
      obtain ⟨hxn,hck⟩:=hck
      have HCK:=Hd hck
      have HEN:=Hd hen
      have bx:(xn != c)=false:=by rw [hxn];simp
      have bw:IntKind.i64.wrap (c+1)=c+1:=by rw [IntKind.wrap_i64];omega
      clear hxn hck hen
      go_wp2_with fail
      refine ⟨⟨q+1,c+1,by omega,by simp,by simp,by omega,by omega,HCK,HEN,Hd ?_⟩,?_⟩
      ·exact HOj.out.trans ((Only.refl [] _).alloc _) (by simp)
      ·simp [intOf]
       omega
     ·rw [if_neg h2] at hck hen
      have e2:(xd == 2)=false:=by simpa using h2
      have HCK:=Hd hck
      have HEN:=Hd hen
      clear hck hen
      go_wp2_with fail
      refine ⟨⟨q+1,c,by omega,by simp,rfl,by omega,by omega,HCK,HEN,Hd ?_⟩,?_⟩
      ·exact HOj.out.trans ((Only.refl [] _).alloc _) (by simp)
      ·simp [intOf]
       omega
    ·obtain rfl:q=vn1:=by omega
     have hen:=HEN.out
     rw [List.drop_of_length_le (by rw [← HVN1.out];exact Nat.le_refl _)] at hen
     have hcj:c=(j:Int):=hen
     subst hcj
     obtain ⟨gv,ov,rfl,zc⟩:=(HV1.out.quiet HOj.out).at_ HC.out.2.1
     have y0:wr.cell? ⟨gv,ov+(2*m+1)*2,none⟩=some (.int .i64 16):=by have h:wr.cell? ⟨gv,ov+(2*m+1)*2+0,none⟩=_:=zc 0 _ rfl;simpa using h
     have z2:wr.cell? ⟨gc1,2,none⟩=some (.slice (some ⟨gv,ov,none⟩) q vc1):=cell_at 2 (HOj.out.heap HC1.out (by simp))
     have hj1:2*(j:Int) - 1=((2*m+1:Nat):Int):=by have:=HM.out.2;omega
     have hb0:(0:Int)≤((2*m+1:Nat):Int):=by omega
     have hb1:((2*m+1:Nat):Int) < (q:Int):=by have:=HM.out.2;have:=HVN.out;omega
     clear zc hen HEN HCK
     go_wp2_with fail
     go_ret
     exact ⟨rfl,HO.out.trans HOj.out (by simp)⟩
set_option maxRecDepth 100000 in
theorem codeLocals_lifted (os:Os) (started:os.Started) (H:Type) (enc:TypeId×Value→H) :
  ReturnsInHanded {} Tryz.checked os 8 .any (fun w args=>(Rows.codeLocalsSpec.pre enc Tryz.prog Tryz.f8 Rows.codeLocalsRow.domain false w args∧laidMet Tryz.prog laid5 w)∧sizedMet enc Tryz.prog Tryz.f8 (OpenSpec.ofChange Rows.codeLocalsSpec) false w args)
   (Rows.codeLocalsSpec.post enc Tryz.prog Tryz.f8 false true false false):=by
 refine returnsInHanded_of_change_and (C:=Tryz.checked) (X:=(fun w _=>laidMet Tryz.prog laid5 w)) (fun _ _ _ hh h=>h.of_heap hh) law_own started (by kernel_rfl) Tryz.func8
  (ChangeSpec.witness_at (enc:=enc) (C:=Tryz.checked) (os:=os) (X:=(fun w _=>laidMet Tryz.prog laid5 w)) false (laidWorld os) #[.int .i64 0] 8 rfl (by kernel_rfl) (by kernel_rfl) (by kernel_rfl) (by kernel_rfl) (by kernel_rfl) (laidWorld_met os _)) ?_
 intro W base args ds gs before hval0 hW hcnd hsz0 hL _
 have hE:=errs_of_laid hL
 have hval:∀ (j:Nat) t v,Tryz.f8.params[j]?=some t→args[j]?=some v→Value.okWide Tryz.prog W .any base t v:=hval0
 have hW':=hW
 obtain ⟨p,q,hA0,hV,rfl,hfz,hnd⟩:=hW'
 have hA:DataW.TrodAll enc Tryz.prog W 0 (fun _=>true) true Tryz.f8.params.toList args.toList ds p:=hA0
 rw [Tryz.params8] at hA hval
 obtain ⟨v0,vs0,d0,ds0,p0,q0,hargs,rfl,rfl,h0,r0⟩:=trodAll_cons hA
 obtain ⟨rfl,rfl,rfl⟩:=trodAll_nil r0
 obtain rfl:args=#[v0]:=by cases args;simp_all
 obtain ⟨rfl,rfl⟩:=trodVars_none hV
 obtain ⟨a0,rfl,rfl,rfl,w0⟩:=open_int Tryz.underlying3 (hval 0 3 v0 rfl rfl) h0
 clear hA0 hval0
 refine (codeLocals_walk a0  W w0 hE).mono fun e W' ⟨he,hg⟩=>?_
 subst he
 exact ⟨_,rfl,post_quiet (pa:=([]++[])) (pv:=[]) hW hg (fun _ _ _=>(trodAll_cons_mk (shut_bool Tryz.underlying4 _) trodAll_mk0)) (fun sp hsp=>(trodAll_cons_mk (shut_int Tryz.underlying3 w0) trodAll_mk0)) (fun _ _=>rfl) (by simp) (ok_one (by kernel_rfl) rfl (okWide_bool_mk Tryz.underlying4 _))⟩
theorem codeLocals_over:Rows.codeLocalsRow.holds Tryz.pinned (OpenSpec.ofChange Rows.codeLocalsSpec):=
 OpenClaim.holds_of_wide 8 Tryz.f8 rfl rfl rfl rfl rfl rfl rfl ⟨rfl,rfl,rfl,rfl,rfl⟩ rfl rfl rfl rfl rfl (by kernel_rfl) Tryz.func8 (by kernel_rfl)
  (of_decide_eq_true (by kernel_rfl)) (by unfold Func.isWrapper;first | (rw [if_pos (by decide +kernel)];kernel_rfl) | (rw [if_neg (by decide +kernel)];exact ⟨rfl,rfl⟩))
  (fun os started H enc _=>codeLocals_lifted os started H enc)
theorem codeLocals_holds:Rows.CodeLocalsCardSaid:=
 Claim7.holds_tied_plain_at .later [] [.data,.data,.data] true (true,"15efa5c0b783041a866d390ad58605ebe9e7bd5fb484820fb9a3bda929985d92") true
  codeLocals_over (fun _ h=>by cases h) (by kernel_rfl) (fun _ h=>by cases h) codeLocals_row_tie rfl ⟨rfl,rfl⟩ (by kernel_rfl) rfl
  (fun f fn hf hfn=>by
   obtain rfl:f=8:=Option.some.inj ((show Tryz.prog.funcNamed Rows.codeLocalsRow.func=some 8 by kernel_rfl).symm.trans hf) |>.symm
   obtain rfl:fn=Tryz.f8:=(Option.some.inj (Tryz.func8.symm.trans hfn)).symm
   exact ⟨by kernel_rfl,fun j t ht=>by
    rw [Tryz.params8] at ht
    have h3:t=3:=by
     rcases j with _ | j
     ·simpa using ht.symm
     ·simp at ht
    subst h3
    exact (show Tryz.prog.wantsStandIn 3=false by kernel_rfl)⟩)
  (by kernel_rfl)
#print axioms codeLocals_holds
end Go.Proofs.YtheanmadognhbaaGreatDoor
