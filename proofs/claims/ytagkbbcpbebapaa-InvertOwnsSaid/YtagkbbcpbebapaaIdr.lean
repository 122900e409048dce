import Derived.Test.YtagkbbcpbebapaaIcr
import Derived.BigQuiet
namespace Go.Proofs.Ytagkbbcpbebapaa
open Go.RowKit Go.Maps
set_option linter.unusedSimpArgs false
set_option linter.unusedVariables false
def XSaP (N:Nat):Prop:=∀ (xs:List E),sizeL xs≤N→∀ (w:World) (v1 v2:Value) (B1 B2:Nat→Prop),EsV w B1 v1 xs→EsV w B2 v2 xs→
 Calls Try.prog 26 #[v1,v2,.bool true] w fun en w'=>en=.returned (.bool true)∧Only [] w w'
set_option maxRecDepth 100000 in
set_option maxHeartbeats 8000000 in
theorem xsame_step (N:Nat) (hNN:N≤1000000) (IS:∀ M,M < N→XSaP M):XSaP N:=by
 intro xs hN w v1 v2 B1 B2 h1 h2
 obtain ⟨a1,cap1,rfl,-⟩:=id h1
 obtain ⟨a2,cap2,rfl,-⟩:=id h2
 have hlen:=sizeL_len xs
 obtain ⟨n,hn⟩:∃ n,n=xs.length:=⟨_,rfl⟩
 rw [← hn] at hlen h1 h2⊢
 have H1:=Hd h1
 have H2:=Hd h2
 have HN:=Hd hn
 have hnb:n≤1000000:=by omega
 clear h1 h2 hn
 go_enter Try.func26,Try.ntmps26
 go_wp2_with fail
 go_loopw [7] (fun ix wr=>∃ j:Nat,j≤n∧ix=.int .i64 (j:Int)∧Hid (Only [] w wr)) (fun ix _=>n - (intOf ix).toNat)
 case atStart=>exact ⟨0,Nat.zero_le _,rfl,Hd (Only.refl _ _)⟩
 case round=>
  obtain ⟨j,hjn,rfl,HO⟩:=hrel
  by_cases hlt:j < n
  ·have hlt':(j:Int) < (n:Int):=by omega
   have j0:(0:Int)≤(j:Int):=by omega
   obtain ⟨-,g1,k,nn,nm,ys,p,a',c',rfl,he,x0,x1,x2,x3,x4,hv1⟩:=(H1.out.quiet HO.out).elem hlt
   obtain ⟨-,g2,k',nn',nm',ys',p',a'',c'',rfl,he',z0,z1,z2,z3,z4,hv2⟩:=(H2.out.quiet HO.out).elem hlt
   rw [he] at he'
   cases he'
   have hT1:=sizeL_mem he
   rw [sizeE_mk] at hT1
   obtain ⟨L,hL⟩:∃ L,L=ys.length:=⟨_,rfl⟩
   obtain ⟨sn,hsn⟩:∃ sn,sn=strOf nm:=⟨_,rfl⟩
   rw [← hL] at x3 z3 hv1 hv2
   rw [← hsn] at x2 z2
   have K1:=IS _ (show sizeL ys < N by omega) ys (Nat.le_refl _)
   have HK:=Hd (fun W (o:Only [] wr W)=>K1 W _ _ B1 B2 (hv1.quiet o) (hv2.quiet o))
   have e1:(k != k)=false:=by simp
   have e2:(nn != nn)=false:=by simp
   have e3:(p != p)=false:=by simp
   clear he hL hsn hv1 hv2 hT1 hlen hN K1
   go_upto_region 6 with (fail)
   have oD:Only [] wr wr.drew:=(Only.refl [] wr).drew
   refine wp_region_held_drew (S:=fun w'=>(w'.cell? ⟨g1,j*5,none⟩=some (.int .i64 k)∧w'.cell? ⟨g1,j*5+1,none⟩=some (.int .i64 nn)∧w'.cell? ⟨g1,j*5+2,none⟩=some (.string sn)∧w'.cell? ⟨g1,j*5+3,none⟩=some (.slice a' L c')∧w'.cell? ⟨g1,j*5+4,none⟩=some (.int .i64 p))∧
    (w'.cell? ⟨g2,j*5,none⟩=some (.int .i64 k)∧w'.cell? ⟨g2,j*5+1,none⟩=some (.int .i64 nn)∧w'.cell? ⟨g2,j*5+2,none⟩=some (.string sn)∧w'.cell? ⟨g2,j*5+3,none⟩=some (.slice a'' L c'')∧w'.cell? ⟨g2,j*5+4,none⟩=some (.int .i64 p))) (by kernel_rfl)
    ⟨⟨cell_kept oD x0 (by simp),cell_kept oD x1 (by simp),cell_kept oD x2 (by simp),cell_kept oD x3 (by simp),cell_kept oD x4 (by simp)⟩,⟨cell_kept oD z0 (by simp),cell_kept oD z1 (by simp),cell_kept oD z2 (by simp),cell_kept oD z3 (by simp),cell_kept oD z4 (by simp)⟩⟩ (fun hH=>?_)
   have HOD:=Hd oD
   have HO5:=Hd (HO.out.trans oD (by simp))
   clear x0 x1 x2 x3 x4 z0 z1 z2 z3 z4 oD
   generalize wr.drew=wd at HOD HO5 hH⊢
   refine tk 0 hH ?_
   refine tk 1 hH ?_
   refine tk 2 hH ?_
   refine tk 3 hH ?_
   refine tk 4 hH ?_
   refine tk 5 hH ?_
   refine tk 6 hH ?_
   refine tk 7 hH ?_
   refine tk 8 hH ?_
   refine tk 9 hH ?_
   refine tk 10 hH ?_
   refine tk 11 hH ?_
   refine tk 12 hH ?_
   refine tk 13 hH ?_
   refine tk 14 hH ?_
   refine tk 15 hH ?_
   refine tk 16 hH ?_
   refine tk 17 hH ?_
   refine tk 18 hH ?_
   refine tk 19 hH ?_
   refine tk 20 hH ?_
   refine tk 21 hH ?_
   refine tk 22 hH ?_
   refine tk 23 hH ?_
   refine tk 24 hH ?_
   refine tk 25 hH ?_
   refine tk 26 hH ?_
   refine tk 27 hH ?_
   refine tk 28 hH ?_
   refine tk 29 hH ?_
   refine tk 30 hH ?_
   refine tk 31 hH ?_
   refine tk 32 hH ?_
   refine tk 33 hH ?_
   refine tk 34 hH ?_
   refine tk 35 hH ?_
   refine tk 36 hH ?_
   refine tk 37 hH ?_
   refine tk 38 hH ?_
   refine tk 39 hH ?_
   refine tk 40 hH ?_
   refine tk 41 hH ?_
   refine tk 42 hH ?_
   refine tk 43 hH ?_
   refine tk 44 hH ?_
   refine tk 45 hH ?_
   refine tk 46 hH ?_
   refine tk 47 hH ?_
   refine tk 48 hH ?_
   refine tk 49 hH ?_
   refine tk 50 hH ?_
   refine tk 51 hH ?_
   refine tk 52 hH ?_
   refine tk 53 hH ?_
   refine tk 54 hH ?_
   refine tk 55 hH ?_
   refine tk 56 hH ?_
   refine tk 57 hH ?_
   refine tk 58 hH ?_
   refine tk 59 hH ?_
   refine tk 60 hH ?_
   refine tk 61 hH ?_
   refine tk 62 hH ?_
   refine tk 63 hH ?_
   refine tk 64 hH ?_
   refine rd 65 (fun K hK=>?_)
   go_simp
   refine (HK.out wd HOD.out).mono ?_
   rintro en w6 ⟨rfl,ho6⟩
   refine hK.out _ _ ⟨⟨cell_kept ho6 hH.1.1 (by simp),cell_kept ho6 hH.1.2.1 (by simp),cell_kept ho6 hH.1.2.2.1 (by simp),cell_kept ho6 hH.1.2.2.2.1 (by simp),cell_kept ho6 hH.1.2.2.2.2 (by simp)⟩,⟨cell_kept ho6 hH.2.1 (by simp),cell_kept ho6 hH.2.2.1 (by simp),cell_kept ho6 hH.2.2.2.1 (by simp),cell_kept ho6 hH.2.2.2.2.1 (by simp),cell_kept ho6 hH.2.2.2.2.2 (by simp)⟩⟩ (fun hH=>?_)
   clear hK K
   refine tk 66 hH ?_
   refine tk 67 hH ?_
   have HO6:=Hd (HO5.out.trans ho6 (by simp))
   clear ho6 hH e1 e2 e3
   refine wpAnyH_done (by kernel_rfl) ?_ _
   go_wp2_with fail
   go_roundw
   case rel=>exact ⟨j+1,by omega,by go_num,HO6⟩
   case measure=>simp [intOf];omega
  ·obtain rfl:j=n:=by omega
   go_wp2_with fail
   go_ret
   exact ⟨rfl,HO.out⟩
theorem xsame_all (N:Nat) (hN:N≤1000000):XSaP N:=by
 induction N using Nat.strongRecOn with
 | _ N ih=>exact xsame_step N hN (fun M hM=>ih M hM (by omega))
end Go.Proofs.Ytagkbbcpbebapaa
namespace Go.Proofs.Ytagkbbcpbebapaa
open Go.RowKit Go.Maps
set_option linter.unusedSimpArgs false
set_option linter.unusedVariables false
def SSaP (N:Nat):Prop:=∀ (xs:List St),sizeSs xs≤N→∀ (w:World) (v1 v2:Value) (B1 B2:Nat→Prop),SsV w B1 v1 xs→SsV w B2 v2 xs→
 Calls Try.prog 27 #[v1,v2,.bool true] w fun en w'=>en=.returned (.bool true)∧Only [] w w'
set_option maxRecDepth 100000 in
set_option maxHeartbeats 16000000 in
theorem ssame_step (N:Nat) (hNN:N≤1000000) (IS:∀ M,M < N→SSaP M):SSaP N:=by
 intro xs hN w v1 v2 B1 B2 h1 h2
 obtain ⟨a1,cap1,rfl,-⟩:=id h1
 obtain ⟨a2,cap2,rfl,-⟩:=id h2
 have hlen:=sizeSs_len xs
 obtain ⟨n,hn⟩:∃ n,n=xs.length:=⟨_,rfl⟩
 rw [← hn] at hlen h1 h2⊢
 have H1:=Hd h1
 have H2:=Hd h2
 have HN:=Hd hn
 have hnb:n≤1000000:=by omega
 clear h1 h2 hn
 go_enter Try.func27,Try.ntmps27
 go_wp2_with fail
 go_loopw [7] (fun ix wr=>∃ j:Nat,j≤n∧ix=.int .i64 (j:Int)∧Hid (Only [] w wr)) (fun ix _=>n - (intOf ix).toNat)
 case atStart=>exact ⟨0,Nat.zero_le _,rfl,Hd (Only.refl _ _)⟩
 case round=>
  obtain ⟨j,hjn,rfl,HO⟩:=hrel
  by_cases hlt:j < n
  ·have hlt':(j:Int) < (n:Int):=by omega
   have j0:(0:Int)≤(j:Int):=by omega
   obtain ⟨-,g1,k,nm,ys,nn,bd,els,p,a0,c0,a1,c1,a2,c2,rfl,he,x0,x1,x2,x3,x4,x5,x6,hv0,hv1,hv2⟩:=(H1.out.quiet HO.out).elem hlt
   obtain ⟨-,g2,k',nm',ys',nn',bd',els',p',b0,d0,b1,d1,b2,d2,rfl,he',z0,z1,z2,z3,z4,z5,z6,hu0,hu1,hu2⟩:=(H2.out.quiet HO.out).elem hlt
   rw [he] at he'
   cases he'
   have hT1:=sizeSs_mem he
   rw [sizeS_mk] at hT1
   have I1:=IS _ (show sizeSs bd < N by omega) bd (Nat.le_refl _)
   have I2:=IS _ (show sizeSs els < N by omega) els (Nat.le_refl _)
   have I0:=xsame_all 1000000 (Nat.le_refl _) ys (by omega)
   obtain ⟨L0,hL0⟩:∃ L,L=ys.length:=⟨_,rfl⟩
   obtain ⟨L1,hL1⟩:∃ L,L=bd.length:=⟨_,rfl⟩
   obtain ⟨L2,hL2⟩:∃ L,L=els.length:=⟨_,rfl⟩
   obtain ⟨sn,hsn⟩:∃ sn,sn=strOf nm:=⟨_,rfl⟩
   rw [← hL0] at x2 z2 hv0 hu0
   rw [← hL1] at x4 z4 hv1 hu1
   rw [← hL2] at x5 z5 hv2 hu2
   rw [← hsn] at x1 z1
   have HI0:=Hd (fun W (o:Only [] wr W)=>I0 W _ _ B1 B2 (hv0.quiet o) (hu0.quiet o))
   have HI1:=Hd (fun W (o:Only [] wr W)=>I1 W _ _ B1 B2 (hv1.quiet o) (hu1.quiet o))
   have HI2:=Hd (fun W (o:Only [] wr W)=>I2 W _ _ B1 B2 (hv2.quiet o) (hu2.quiet o))
   have HC1:=Hd (And.intro x2 (And.intro x4 x5))
   have HC2:=Hd (And.intro z2 (And.intro z4 z5))
   have e1:(k != k)=false:=by simp
   have e2:(nn != nn)=false:=by simp
   have e3:(p != p)=false:=by simp
   clear he hL0 hL1 hL2 hsn hv0 hv1 hv2 hu0 hu1 hu2 hT1 hlen hN I0 I1 I2
   go_upto_region 6 with (fail)
   have oD:Only [] wr wr.drew:=(Only.refl [] wr).drew
   refine wp_region_held_drew (S:=fun w'=>(w'.cell? ⟨g1,j*7,none⟩=some (.int .i64 k)∧w'.cell? ⟨g1,j*7+1,none⟩=some (.string sn)∧w'.cell? ⟨g1,j*7+3,none⟩=some (.int .i64 nn)∧w'.cell? ⟨g1,j*7+6,none⟩=some (.int .i64 p))∧
    (w'.cell? ⟨g2,j*7,none⟩=some (.int .i64 k)∧w'.cell? ⟨g2,j*7+1,none⟩=some (.string sn)∧w'.cell? ⟨g2,j*7+3,none⟩=some (.int .i64 nn)∧w'.cell? ⟨g2,j*7+6,none⟩=some (.int .i64 p))) (by kernel_rfl)
    ⟨⟨cell_kept oD x0 (by simp),cell_kept oD x1 (by simp),cell_kept oD x3 (by simp),cell_kept oD x6 (by simp)⟩,⟨cell_kept oD z0 (by simp),cell_kept oD z1 (by simp),cell_kept oD z3 (by simp),cell_kept oD z6 (by simp)⟩⟩ (fun hH=>?_)
   have HOD:=Hd oD
   clear x0 x1 x2 x3 x4 x5 x6 z0 z1 z2 z3 z4 z5 z6 oD
   generalize wr.drew=wd at HOD hH⊢
   refine tk 0 hH ?_
   refine tk 1 hH ?_
   refine tk 2 hH ?_
   refine tk 3 hH ?_
   refine tk 4 hH ?_
   refine tk 5 hH ?_
   refine tk 6 hH ?_
   refine tk 7 hH ?_
   refine tk 8 hH ?_
   refine tk 9 hH ?_
   refine tk 10 hH ?_
   refine tk 11 hH ?_
   refine tk 12 hH ?_
   refine tk 13 hH ?_
   refine tk 14 hH ?_
   refine tk 15 hH ?_
   refine tk 16 hH ?_
   refine tk 17 hH ?_
   refine tk 18 hH ?_
   refine tk 19 hH ?_
   refine tk 20 hH ?_
   refine tk 21 hH ?_
   refine tk 22 hH ?_
   refine tk 23 hH ?_
   refine tk 24 hH ?_
   refine tk 25 hH ?_
   refine tk 26 hH ?_
   refine tk 27 hH ?_
   refine tk 28 hH ?_
   refine tk 29 hH ?_
   refine tk 30 hH ?_
   refine tk 31 hH ?_
   refine tk 32 hH ?_
   refine tk 33 hH ?_
   refine tk 34 hH ?_
   refine tk 35 hH ?_
   refine tk 36 hH ?_
   refine tk 37 hH ?_
   refine tk 38 hH ?_
   refine tk 39 hH ?_
   refine tk 40 hH ?_
   refine tk 41 hH ?_
   refine tk 42 hH ?_
   refine tk 43 hH ?_
   refine tk 44 hH ?_
   refine tk 45 hH ?_
   refine tk 46 hH ?_
   refine tk 47 hH ?_
   refine tk 48 hH ?_
   refine tk 49 hH ?_
   refine tk 50 hH ?_
   refine tk 51 hH ?_
   refine tk 52 hH ?_
   clear hH e1 e2 e3
   refine wpAnyH_done (by kernel_rfl) ?_ _
   go_upto_region 8 with (fail)
   have oD:Only [] wd wd.drew:=(Only.refl [] wd).drew
   have oE:=HOD.out.trans oD (by simp)
   refine wp_region_held_drew (S:=fun w'=>(w'.cell? ⟨g1,j*7+2,none⟩=some (.slice a0 L0 c0)∧w'.cell? ⟨g1,j*7+4,none⟩=some (.slice a1 L1 c1)∧w'.cell? ⟨g1,j*7+5,none⟩=some (.slice a2 L2 c2))∧
    (w'.cell? ⟨g2,j*7+2,none⟩=some (.slice b0 L0 d0)∧w'.cell? ⟨g2,j*7+4,none⟩=some (.slice b1 L1 d1)∧w'.cell? ⟨g2,j*7+5,none⟩=some (.slice b2 L2 d2))) (by kernel_rfl)
    ⟨⟨cell_kept oE HC1.out.1 (by simp),cell_kept oE HC1.out.2.1 (by simp),cell_kept oE HC1.out.2.2 (by simp)⟩,⟨cell_kept oE HC2.out.1 (by simp),cell_kept oE HC2.out.2.1 (by simp),cell_kept oE HC2.out.2.2 (by simp)⟩⟩ (fun hH=>?_)
   have HOE:=Hd oE
   clear oD oE HOD
   generalize wd.drew=we at HOE hH⊢
   refine tk 0 hH ?_
   refine tk 1 hH ?_
   refine tk 2 hH ?_
   refine tk 3 hH ?_
   refine tk 4 hH ?_
   refine tk 5 hH ?_
   refine tk 6 hH ?_
   refine tk 7 hH ?_
   refine tk 8 hH ?_
   refine tk 9 hH ?_
   refine tk 10 hH ?_
   refine rd 11 (fun K hK=>?_)
   go_simp
   refine (HI0.out we HOE.out).mono ?_
   rintro en w6 ⟨rfl,ho6⟩
   refine hK.out _ _ ⟨⟨cell_kept ho6 hH.1.1 (by simp),cell_kept ho6 hH.1.2.1 (by simp),cell_kept ho6 hH.1.2.2 (by simp)⟩,⟨cell_kept ho6 hH.2.1 (by simp),cell_kept ho6 hH.2.2.1 (by simp),cell_kept ho6 hH.2.2.2 (by simp)⟩⟩ (fun hH=>?_)
   clear hK K
   replace HOE:=Hd (HOE.out.trans ho6 (by simp))
   clear ho6
   refine tk 12 hH ?_
   refine tk 13 hH ?_
   refine tk 14 hH ?_
   refine tk 15 hH ?_
   refine tk 16 hH ?_
   refine tk 17 hH ?_
   refine tk 18 hH ?_
   refine tk 19 hH ?_
   refine tk 20 hH ?_
   refine tk 21 hH ?_
   refine tk 22 hH ?_
   refine tk 23 hH ?_
   refine tk 24 hH ?_
   refine rd 25 (fun K hK=>?_)
   go_simp
   refine (HI1.out w6 HOE.out).mono ?_
   rintro en w7 ⟨rfl,ho6⟩
   refine hK.out _ _ ⟨⟨cell_kept ho6 hH.1.1 (by simp),cell_kept ho6 hH.1.2.1 (by simp),cell_kept ho6 hH.1.2.2 (by simp)⟩,⟨cell_kept ho6 hH.2.1 (by simp),cell_kept ho6 hH.2.2.1 (by simp),cell_kept ho6 hH.2.2.2 (by simp)⟩⟩ (fun hH=>?_)
   clear hK K
   replace HOE:=Hd (HOE.out.trans ho6 (by simp))
   clear ho6
   refine tk 26 hH ?_
   refine tk 27 hH ?_
   refine tk 28 hH ?_
   refine tk 29 hH ?_
   refine tk 30 hH ?_
   refine tk 31 hH ?_
   refine tk 32 hH ?_
   refine tk 33 hH ?_
   refine tk 34 hH ?_
   refine tk 35 hH ?_
   refine tk 36 hH ?_
   refine tk 37 hH ?_
   refine tk 38 hH ?_
   refine tk 39 hH ?_
   refine rd 40 (fun K hK=>?_)
   go_simp
   refine (HI2.out w7 HOE.out).mono ?_
   rintro en w8 ⟨rfl,ho6⟩
   refine hK.out _ _ ⟨⟨cell_kept ho6 hH.1.1 (by simp),cell_kept ho6 hH.1.2.1 (by simp),cell_kept ho6 hH.1.2.2 (by simp)⟩,⟨cell_kept ho6 hH.2.1 (by simp),cell_kept ho6 hH.2.2.1 (by simp),cell_kept ho6 hH.2.2.2 (by simp)⟩⟩ (fun hH=>?_)
   clear hK K
   replace HOE:=Hd (HOE.out.trans ho6 (by simp))
   clear ho6
   refine tk 41 hH ?_
   refine tk 42 hH ?_
   have HO6:=Hd (HO.out.trans HOE.out (by simp))
   clear hH HI0 HI1 HI2 HC1 HC2 HOE
   refine wpAnyH_done (by kernel_rfl) ?_ _
   go_wp2_with fail
   go_roundw
   case rel=>exact ⟨j+1,by omega,by go_num,HO6⟩
   case measure=>simp [intOf];omega
  ·obtain rfl:j=n:=by omega
   go_wp2_with fail
   go_ret
   exact ⟨rfl,HO.out⟩
theorem ssame_all (N:Nat) (hN:N≤1000000):SSaP N:=by
 induction N using Nat.strongRecOn with
 | _ N ih=>exact ssame_step N hN (fun M hM=>ih M hM (by omega))
end Go.Proofs.Ytagkbbcpbebapaa
namespace Go.Proofs.Ytagkbbcpbebapaa
open Go.RowKit Go.Maps
set_option linter.unusedSimpArgs false
set_option linter.unusedVariables false
theorem NmV.nthT {w:World} {B:Nat→Prop} {a:Option Addr} {n c j:Nat} {l:List Sec} {s:Sec} (h:NmV w B (.slice a n c) l) (hj:l[j]?=some s):∃ g,a=some ⟨g,0,none⟩∧B g∧w.cell? ⟨g,j,none⟩=some (.string (strOf s)):=by
 obtain ⟨a',cap,e,-,hx⟩:=h
 cases e
 rcases hx with hx | ⟨g,h1,h2,h3⟩
 ·rw [hx] at hj;simp at hj
 ·exact ⟨g,h1,h2,h3 j s hj⟩
set_option maxRecDepth 100000 in
set_option maxHeartbeats 16000000 in
theorem same_dv {w:World} {B1 B2:Nat→Prop} {d:Df} {cs1 cs2:List Value} (h1:DV w B1 d cs1) (h2:DV w B2 d cs2) (hs:sizeL d.needs+sizeSs d.body+sizeL d.give≤1000000) (hp:d.params.length≤1000000) :
  Calls Try.prog 13 #[.agg cs1.toArray,.agg cs2.toArray,.bool true] w fun en w'=>en=.returned (.bool true)∧Only [] w w':=by
 obtain ⟨v1,v2,v3,v4,rfl,hv1,hv2,hv3,hv4⟩:=h1
 obtain ⟨u1,u2,u3,u4,rfl,hu1,hu2,hu3,hu4⟩:=h2
 obtain ⟨a11,c11,rfl,-⟩:=id hv1
 obtain ⟨a21,c21,rfl,-⟩:=id hv2
 obtain ⟨a31,c31,rfl,-⟩:=id hv3
 obtain ⟨a41,c41,rfl,-⟩:=id hv4
 obtain ⟨a12,c12,rfl,-⟩:=id hu1
 obtain ⟨a22,c22,rfl,-⟩:=id hu2
 obtain ⟨a32,c32,rfl,-⟩:=id hu3
 obtain ⟨a42,c42,rfl,-⟩:=id hu4
 have I2:=xsame_all 1000000 (Nat.le_refl _) d.needs (by omega)
 have I3:=ssame_all 1000000 (Nat.le_refl _) d.body (by omega)
 have I4:=xsame_all 1000000 (Nat.le_refl _) d.give (by omega)
 obtain ⟨sn,hsn⟩:∃ sn,sn=strOf d.name:=⟨_,rfl⟩
 obtain ⟨L1,hL1⟩:∃ L,L=d.params.length:=⟨_,rfl⟩
 obtain ⟨L2,hL2⟩:∃ L,L=d.needs.length:=⟨_,rfl⟩
 obtain ⟨L3,hL3⟩:∃ L,L=d.body.length:=⟨_,rfl⟩
 obtain ⟨L4,hL4⟩:∃ L,L=d.give.length:=⟨_,rfl⟩
 rw [← hL1] at hv1 hu1 hp
 rw [← hL2] at hv2 hu2
 rw [← hL3] at hv3 hu3
 rw [← hL4] at hv4 hu4
 rw [← hsn,← hL1,← hL2,← hL3,← hL4]
 have HI2:=Hd (fun W (o:Only [] w W)=>I2 W _ _ B1 B2 (hv2.quiet o) (hu2.quiet o))
 have HI3:=Hd (fun W (o:Only [] w W)=>I3 W _ _ B1 B2 (hv3.quiet o) (hu3.quiet o))
 have HI4:=Hd (fun W (o:Only [] w W)=>I4 W _ _ B1 B2 (hv4.quiet o) (hu4.quiet o))
 have HV:=Hd hv1
 have HU:=Hd hu1
 have HL:=Hd hL1
 clear hv1 hv2 hv3 hv4 hu1 hu2 hu3 hu4 hsn hL1 hL2 hL3 hL4 I2 I3 I4 hs
 go_enter Try.func13,Try.ntmps13
 go_upto_region 1 with (fail)
 have oA1:=(Only.refl [] w).alloc (.cells #[.string sn,.slice a11 L1 c11,.slice a21 L2 c21,.slice a31 L3 c31,.slice a41 L4 c41] 27)
 have hA1:=heap_new w (.cells #[.string sn,.slice a11 L1 c11,.slice a21 L2 c21,.slice a31 L3 c31,.slice a41 L4 c41] 27)
 obtain ⟨ga,hga⟩:∃ g,g=w.heap.size:=⟨_,rfl⟩
 have hsy:(w.alloc (.cells #[.string sn,.slice a11 L1 c11,.slice a21 L2 c21,.slice a31 L3 c31,.slice a41 L4 c41] 27)).heap.size=w.heap.size+1:=Array.size_push _
 rw [← hga] at hA1 hsy⊢
 generalize w.alloc (.cells #[.string sn,.slice a11 L1 c11,.slice a21 L2 c21,.slice a31 L3 c31,.slice a41 L4 c41] 27)=wy at oA1 hA1 hsy⊢
 have oA2:=(Only.refl [] wy).alloc (.cells #[.string sn,.slice a12 L1 c12,.slice a22 L2 c22,.slice a32 L3 c32,.slice a42 L4 c42] 27)
 have hA2:=heap_new wy (.cells #[.string sn,.slice a12 L1 c12,.slice a22 L2 c22,.slice a32 L3 c32,.slice a42 L4 c42] 27)
 obtain ⟨gb,hgb⟩:∃ g,g=ga+1:=⟨_,rfl⟩
 rw [hsy,← hgb] at hA2
 rw [← hgb]
 generalize wy.alloc (.cells #[.string sn,.slice a12 L1 c12,.slice a22 L2 c22,.slice a32 L3 c32,.slice a42 L4 c42] 27)=w1 at oA2 hA2⊢
 have HO:=Hd (oA1.trans oA2 (by simp))
 have HA:=Hd (oA2.heap hA1 (by simp))
 have HB:=Hd hA2
 clear oA1 hA1 hga oA2 hA2 hgb hsy
 have y0:w1.cell? ⟨ga,0,none⟩=some (.string sn):=cell_at 0 HA.out
 have y1:w1.cell? ⟨ga,1,none⟩=some (.slice a11 L1 c11):=cell_at 1 HA.out
 have y2:w1.cell? ⟨ga,2,none⟩=some (.slice a21 L2 c21):=cell_at 2 HA.out
 have y3:w1.cell? ⟨ga,3,none⟩=some (.slice a31 L3 c31):=cell_at 3 HA.out
 have y4:w1.cell? ⟨ga,4,none⟩=some (.slice a41 L4 c41):=cell_at 4 HA.out
 have z0:w1.cell? ⟨gb,0,none⟩=some (.string sn):=cell_at 0 HB.out
 have z1:w1.cell? ⟨gb,1,none⟩=some (.slice a12 L1 c12):=cell_at 1 HB.out
 have z2:w1.cell? ⟨gb,2,none⟩=some (.slice a22 L2 c22):=cell_at 2 HB.out
 have z3:w1.cell? ⟨gb,3,none⟩=some (.slice a32 L3 c32):=cell_at 3 HB.out
 have z4:w1.cell? ⟨gb,4,none⟩=some (.slice a42 L4 c42):=cell_at 4 HB.out
 go_wp2_with fail
 refine (HI2.out w1 HO.out).mono ?_
 rintro en w2 ⟨rfl,o5⟩
 replace HO:=Hd (HO.out.trans o5 (by simp))
 replace HA:=Hd (o5.heap HA.out (by simp))
 replace HB:=Hd (o5.heap HB.out (by simp))
 clear o5 y0 y1 y2 y3 y4 z0 z1 z2 z3 z4
 have y0:w2.cell? ⟨ga,0,none⟩=some (.string sn):=cell_at 0 HA.out
 have y1:w2.cell? ⟨ga,1,none⟩=some (.slice a11 L1 c11):=cell_at 1 HA.out
 have y2:w2.cell? ⟨ga,2,none⟩=some (.slice a21 L2 c21):=cell_at 2 HA.out
 have y3:w2.cell? ⟨ga,3,none⟩=some (.slice a31 L3 c31):=cell_at 3 HA.out
 have y4:w2.cell? ⟨ga,4,none⟩=some (.slice a41 L4 c41):=cell_at 4 HA.out
 have z0:w2.cell? ⟨gb,0,none⟩=some (.string sn):=cell_at 0 HB.out
 have z1:w2.cell? ⟨gb,1,none⟩=some (.slice a12 L1 c12):=cell_at 1 HB.out
 have z2:w2.cell? ⟨gb,2,none⟩=some (.slice a22 L2 c22):=cell_at 2 HB.out
 have z3:w2.cell? ⟨gb,3,none⟩=some (.slice a32 L3 c32):=cell_at 3 HB.out
 have z4:w2.cell? ⟨gb,4,none⟩=some (.slice a42 L4 c42):=cell_at 4 HB.out
 go_wp2_with fail
 refine (HI3.out w2 HO.out).mono ?_
 rintro en w3 ⟨rfl,o5⟩
 replace HO:=Hd (HO.out.trans o5 (by simp))
 replace HA:=Hd (o5.heap HA.out (by simp))
 replace HB:=Hd (o5.heap HB.out (by simp))
 clear o5 y0 y1 y2 y3 y4 z0 z1 z2 z3 z4
 have y0:w3.cell? ⟨ga,0,none⟩=some (.string sn):=cell_at 0 HA.out
 have y1:w3.cell? ⟨ga,1,none⟩=some (.slice a11 L1 c11):=cell_at 1 HA.out
 have y2:w3.cell? ⟨ga,2,none⟩=some (.slice a21 L2 c21):=cell_at 2 HA.out
 have y3:w3.cell? ⟨ga,3,none⟩=some (.slice a31 L3 c31):=cell_at 3 HA.out
 have y4:w3.cell? ⟨ga,4,none⟩=some (.slice a41 L4 c41):=cell_at 4 HA.out
 have z0:w3.cell? ⟨gb,0,none⟩=some (.string sn):=cell_at 0 HB.out
 have z1:w3.cell? ⟨gb,1,none⟩=some (.slice a12 L1 c12):=cell_at 1 HB.out
 have z2:w3.cell? ⟨gb,2,none⟩=some (.slice a22 L2 c22):=cell_at 2 HB.out
 have z3:w3.cell? ⟨gb,3,none⟩=some (.slice a32 L3 c32):=cell_at 3 HB.out
 have z4:w3.cell? ⟨gb,4,none⟩=some (.slice a42 L4 c42):=cell_at 4 HB.out
 go_wp2_with fail
 refine (HI4.out w3 HO.out).mono ?_
 rintro en w4 ⟨rfl,o5⟩
 replace HO:=Hd (HO.out.trans o5 (by simp))
 replace HA:=Hd (o5.heap HA.out (by simp))
 replace HB:=Hd (o5.heap HB.out (by simp))
 clear o5 y0 y1 y2 y3 y4 z0 z1 z2 z3 z4
 have y0:w4.cell? ⟨ga,0,none⟩=some (.string sn):=cell_at 0 HA.out
 have y1:w4.cell? ⟨ga,1,none⟩=some (.slice a11 L1 c11):=cell_at 1 HA.out
 have y2:w4.cell? ⟨ga,2,none⟩=some (.slice a21 L2 c21):=cell_at 2 HA.out
 have y3:w4.cell? ⟨ga,3,none⟩=some (.slice a31 L3 c31):=cell_at 3 HA.out
 have y4:w4.cell? ⟨ga,4,none⟩=some (.slice a41 L4 c41):=cell_at 4 HA.out
 have z0:w4.cell? ⟨gb,0,none⟩=some (.string sn):=cell_at 0 HB.out
 have z1:w4.cell? ⟨gb,1,none⟩=some (.slice a12 L1 c12):=cell_at 1 HB.out
 have z2:w4.cell? ⟨gb,2,none⟩=some (.slice a22 L2 c22):=cell_at 2 HB.out
 have z3:w4.cell? ⟨gb,3,none⟩=some (.slice a32 L3 c32):=cell_at 3 HB.out
 have z4:w4.cell? ⟨gb,4,none⟩=some (.slice a42 L4 c42):=cell_at 4 HB.out
 go_wp2_with fail
 obtain ⟨wo,hwo⟩:∃ wo:World,wo=w4:=⟨_,rfl⟩
 go_loopw [7] (fun ix wr=>∃ j:Nat,j≤L1∧ix=.int .i64 (j:Int)∧Hid (Only [] wo wr)) (fun ix _=>L1 - (intOf ix).toNat)
 case atStart=>exact ⟨0,Nat.zero_le _,rfl,Hd (by rw [hwo];exact Only.refl _ _)⟩
 case round=>
  clear y0 y1 y2 y3 y4 z0 z1 z2 z3 z4
  obtain ⟨j,hjn,rfl,HR⟩:=hrel
  subst hwo
  have y1:wr.cell? ⟨ga,1,none⟩=some (.slice a11 L1 c11):=cell_kept HR.out (cell_at 1 HA.out) (by simp)
  have z1:wr.cell? ⟨gb,1,none⟩=some (.slice a12 L1 c12):=cell_kept HR.out (cell_at 1 HB.out) (by simp)
  by_cases hlt:j < L1
  ·have hlt':(j:Int) < (L1:Int):=by omega
   have j0:(0:Int)≤(j:Int):=by omega
   obtain ⟨nm,hnm⟩:∃ s,d.params[j]?=some s:=⟨_,List.getElem?_eq_getElem (by rw [← HL.out];exact hlt)⟩
   have oW:=HO.out.trans HR.out (by simp)
   obtain ⟨gn,rfl,-,x1⟩:=(HV.out.kept oW (by simp) (fun _ h=>h)).nthT hnm
   obtain ⟨gm,rfl,-,x2⟩:=(HU.out.kept oW (by simp) (fun _ h=>h)).nthT hnm
   obtain ⟨s0,hs0⟩:∃ s,s=strOf nm:=⟨_,rfl⟩
   rw [← hs0] at x1 x2
   clear hnm hs0 oW
   go_upto_region 6 with (fail)
   have oD:Only [] wr wr.drew:=(Only.refl [] wr).drew
   refine wp_region_held_drew (S:=fun w'=>(w'.cell? ⟨ga,1,none⟩=some (.slice (some ⟨gn,0,none⟩) L1 c11)∧w'.cell? ⟨gb,1,none⟩=some (.slice (some ⟨gm,0,none⟩) L1 c12))∧w'.cell? ⟨gn,j,none⟩=some (.string s0)∧w'.cell? ⟨gm,j,none⟩=some (.string s0)) (by kernel_rfl)
    ⟨⟨cell_kept oD y1 (by simp),cell_kept oD z1 (by simp)⟩,cell_kept oD x1 (by simp),cell_kept oD x2 (by simp)⟩ (fun hH=>?_)
   have HR2:=Hd (HR.out.trans oD (by simp))
   clear oD y1 z1 x1 x2
   generalize wr.drew=wd at HR2 hH⊢
   refine tk 0 hH ?_
   refine tk 1 hH ?_
   refine tk 2 hH ?_
   refine tk 3 hH ?_
   refine tk 4 hH ?_
   refine tk 5 hH ?_
   refine tk 6 hH ?_
   refine tk 7 hH ?_
   refine tk 8 hH ?_
   refine tk 9 hH ?_
   refine tk 10 hH ?_
   clear hH
   refine wpAnyH_done (by kernel_rfl) ?_ _
   go_wp2_with fail
   go_roundw
   case rel=>exact ⟨j+1,by omega,by go_num,HR2⟩
   case measure=>simp [intOf];omega
  ·obtain rfl:j=L1:=by omega
   go_wp2_with fail
   go_ret
   exact ⟨rfl,HO.out.trans HR.out (by simp)⟩
end Go.Proofs.Ytagkbbcpbebapaa
