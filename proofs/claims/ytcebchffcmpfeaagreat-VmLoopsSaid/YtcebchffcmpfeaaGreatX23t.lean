import Derived.Test.YtcebchffcmpfeaaGreatXft
import Derived.Test.YtcebchffcmpfeaaGreatUct
import Derived.Test.YtcebchffcmpfeaaGreatHgt
namespace Go.Proofs.YtcebchffcmpfeaaGreat
set_option linter.unusedVariables false
set_option linter.unusedSimpArgs false
set_option maxRecDepth 100000
set_option maxHeartbeats 16000000
open Go.RowKit Go.Maps
theorem OR.cap {α:Type} {R:RowT α} {w:World} {base n cap:Nat} {a:Option Addr} {l:List α} (h:OR R w base (.slice a n cap) l):n≤cap:=by
 obtain ⟨b,c,e⟩:=h.shape;injection e with _ e1 _
 rcases h.2 with ⟨h1,-⟩ | ⟨g,cap',cur,h1,h2,h3,h4,-⟩
 ·injection h1 with _ h1 _
  omega
 ·injection h1 with _ h1 h5
  omega
def dfV (l:Sec):Df:=match cq l with | .ok d=>d | .error _=>⟨[],[],[],[],[]⟩
def txV:Sec:=[111,112,32,102,40,105,41,32,123,32,91,105,32,43,32,49,32,42,32,50,93,32,43,61,32,51,59,32,125]
theorem parV:cq txV=.ok (dfV txV):=by kernel_rfl
theorem codV:rM (dfV txV)=(⟨1,1,[(2,0),(1,2),(9,1),(1,3),(6,0)],[]⟩,0):=by kernel_rfl
theorem runV12:j6 0 ⟨1,1,[(2,0),(1,2),(9,1),(1,3),(6,0)],[]⟩ blankP [4]=(0 :: blankP.set 6 3,0,.nilIface):=by kernel_rfl
theorem badA:tB ⟨0,0,[(6,0)],[]⟩=err 13:=by kernel_rfl
theorem badJ:tB ⟨0,0,[(12,0)],[]⟩=err 13:=by kernel_rfl
theorem rN (w:World):(binOp .eql 36 .nilIface .nilIface).run Tryz.prog w=.ok (.bool true) w:=by kernel_rfl
theorem rO (n m:Int) (w:World):(binOp .eql 36 (err n) (err m)).run Tryz.prog w=.ok (.bool (n == m)) w:=by kernel_rfl
theorem qC (w:World):Calls Tryz.prog 7 #[] w fun e w'=>e=.returned (.bool true)∧Only [] w w':=by
  have KP:=sJ ⟨#[111,112,32,102,40,105,41,32,123,32,91,105,32,43,32,49,32,42,32,50,93,32,43,61,32,51,59,32,125]⟩ w (by decide);have HOK1:=Hd (xP parV);have HCA:=Hd codV;have HPV:=Hd (show cq (⟨#[111,112,32,102,40,105,41,32,123,32,91,105,32,43,32,49,32,42,32,50,93,32,43,61,32,51,59,32,125]⟩:ByteArray).data.toList=.ok (dfV txV) from parV);rw [HPV.out] at KP;generalize dfV txV=d1 at KP HOK1 HCA HPV;have HO:=Hd (Only.refl [] w);clear HPV
  go_enter Tryz.func7,Tryz.ntmps7
  go_wp2_with fail
  refine KP.mono ?_;rintro e wa ⟨sn1,a11,a21,a31,a41,l11,l21,l31,l41,c11,c21,c31,c41,pc,pp,rfl,-,hok,o1,-⟩;obtain ⟨rfl,rfl,hdv⟩:=hok d1 rfl;have HDV1:=Hd hdv;replace HO:=Hd (HO.out.trans o1 (by simp));clear KP hok o1 hdv;go_upto_region 2 with (fail)
  obtain ⟨w1,q9,oA,hA,-⟩:=nb wa (.cells #[.string sn1,.slice a11 l11 c11,.slice a21 l21 c21,.slice a31 l31 c31,.slice a41 l41 c41] 60);rw [← q9];clear q9;obtain ⟨gd1,hgd⟩:∃ g,g=wa.heap.size:=⟨_,rfl⟩
  rw [← hgd] at hA⊢;replace HO:=Hd (HO.out.trans oA (by simp));(try replace HDV1:=Hd (HDV1.out.kept oA (by simp) (fun _ h=>h)));(try replace HDV2:=Hd (HDV2.out.kept oA (by simp) (fun _ h=>h)));(try replace HA1:=Hd (oA.heap HA1.out (by simp)));(try replace HA2:=Hd (oA.heap HA2.out (by simp)));(try replace HV1:=Hd (HV1.out.quiet oA));(try replace HV2:=Hd (HV2.out.quiet oA));(try replace HU1:=Hd (HU1.out.quiet oA));(try replace HU2:=Hd (HU2.out.quiet oA));(try replace HC1:=Hd (oA.heap HC1.out (by simp)));(try replace HC2:=Hd (oA.heap HC2.out (by simp)));have HA1:=Hd hA;clear oA hA hgd;have y0:w1.cell? ⟨gd1,0,none⟩=some (.string sn1):=ab 0 HA1.out;have y1:w1.cell? ⟨gd1,1,none⟩=some (.slice a11 l11 c11):=ab 1 HA1.out;have y2:w1.cell? ⟨gd1,2,none⟩=some (.slice a21 l21 c21):=ab 2 HA1.out;have y3:w1.cell? ⟨gd1,3,none⟩=some (.slice a31 l31 c31):=ab 3 HA1.out;have y4:w1.cell? ⟨gd1,4,none⟩=some (.slice a41 l41 c41):=ab 4 HA1.out;have KC:=qx xL HDV1.out HOK1.out;rw [HCA.out] at KC;unfold CoPost at KC;dsimp only at KC;go_wp2_with fail
  refine KC.mono ?_;rintro e wc ⟨v1,u1,rfl,hv,hu,o1⟩;obtain ⟨va,vc,rfl⟩:=hv.shape;obtain ⟨ua,uc,rfl⟩:=hu.shape;have HV:=Hd hv;have HU:=Hd hu;replace HO:=Hd (HO.out.trans o1 (by simp));clear KC o1 hv hu y0 y1 y2 y3 y4;go_upto_region 3 with (fail)
  obtain ⟨w2,q9,oB,hB,-⟩:=nb wc (.cells #[.int .i64 1,.int .i64 1,.slice va 5 vc,.slice ua 0 uc] 25);rw [← q9];clear q9;obtain ⟨gc,hgc⟩:∃ g,g=wc.heap.size:=⟨_,rfl⟩
  rw [← hgc] at hB⊢;have hcv:CV w2 ⟨1,1,[(2,0),(1,2),(9,1),(1,3),(6,0)],[]⟩ va 5 vc ua 0 uc:=⟨HV.out.rv.quiet oB,HU.out.rv.quiet oB,rfl,rfl,by omega,by omega,HV.out.cap,HU.out.cap⟩
  have HCV:=Hd hcv;replace HO:=Hd (HO.out.trans oB (by simp));have k0:w2.cell? ⟨gc,0,none⟩=some (.int .i64 1):=ab 0 hB;have k1:w2.cell? ⟨gc,1,none⟩=some (.int .i64 1):=ab 1 hB;have k2:w2.cell? ⟨gc,2,none⟩=some (.slice va 5 vc):=ab 2 hB;have k3:w2.cell? ⟨gc,3,none⟩=some (.slice ua 0 uc):=ab 3 hB;clear HV HU oB hcv HDV1 HA1 HOK1 HCA hB hgc;go_wp2_with fail
  have oN:Only [] w2 (w2.alloc (.cells #[.int .i64 4] 3)):=(Only.refl _ _).alloc _;have hN:=ag w2 (.cells #[.int .i64 4] 3);have KV:=rJ (q:=0) (pg:=blankP) (args:=[4]) (HCV.out.quiet oN) (by simp [n64]) gN (dz (R:=rZ) 4 _ 1 (fun j y hj=>by rw [ab j hN];simpa [rZ] using hj)) (by simp [n64]) (by decide);rw [runV12] at KV;replace HO:=Hd (HO.out.trans oN (by simp));clear k0 k1 k2 k3 HCV oN hN;generalize w2.alloc (.cells #[.int .i64 4] 3)=w3 at KV HO⊢;refine KV.mono ?_;rintro e w4 ⟨rfl,o4⟩;replace HO:=Hd (HO.out.trans o4 (by simp));clear KV o4;have T1:=trivial
  go_upto_region 4 with (first
    | (clear T1
       refine aJ rfl rfl ?_;intro w5 g6 hb6 hg6 ho6;have HB6:=Hd hb6;have HG6:=Hd (Nat.le_trans HO.out.size hg6);replace HO:=Hd (HO.out.trans ho6 (by simp));clear hb6 hg6 ho6)
    | (refine aw rfl _ _ rfl g6 (0 :: blankP.set 6 3) (by rfl) (by rfl) (by rfl) _ HB6.out (by rfl) ?_;intro w6 hb ho;have HB7:=Hd hb;replace HO:=Hd (HO.out.trans ho (by simp;exact HG6.out));clear hb ho HB6 HG6))
  have k7:w6.cell? ⟨g6,7,none⟩=some (.int .i64 3):=HB7.out.cell (by rfl);have e1:=rN;have e2:=rO;clear HB7;have hz:errQ 0=.nilIface:=rfl;rw [hz];clear hz;go_wp2_with fail
  have oN:Only [] w6 (w6.alloc (.cells #[.int .i64 6,.int .i64 0] 52)):=(Only.refl _ _).alloc _;have hN:=ag w6 (.cells #[.int .i64 6,.int .i64 0] 52);have KV:=fa (c:=⟨0,0,[(6,0)],[]⟩) ⟨dz (R:=rI) (6,0) _ 1 (fun j y hj=>by rw [ab j hN];simpa [rI] using hj),⟨none,0,rfl,.inl rfl⟩,rfl,rfl,by decide,by decide,by decide,by decide⟩;rw [badA] at KV;replace HO:=Hd (HO.out.trans oN (by simp));clear oN hN;generalize w6.alloc (.cells #[.int .i64 6,.int .i64 0] 52)=w7 at KV HO⊢;refine KV.mono ?_;rintro e w8 ⟨rfl,o4⟩;replace HO:=Hd (HO.out.trans o4 (by simp));clear KV o4;go_wp2_with fail
  have oN:Only [] w8 (w8.alloc (.cells #[.int .i64 12,.int .i64 0] 52)):=(Only.refl _ _).alloc _;have hN:=ag w8 (.cells #[.int .i64 12,.int .i64 0] 52);have KV:=fa (c:=⟨0,0,[(12,0)],[]⟩) ⟨dz (R:=rI) (12,0) _ 1 (fun j y hj=>by rw [ab j hN];simpa [rI] using hj),⟨none,0,rfl,.inl rfl⟩,rfl,rfl,by decide,by decide,by decide,by decide⟩;rw [badJ] at KV;replace HO:=Hd (HO.out.trans oN (by simp));clear oN hN;generalize w8.alloc (.cells #[.int .i64 12,.int .i64 0] 52)=w9 at KV HO⊢;refine KV.mono ?_;rintro e w10 ⟨rfl,o4⟩;replace HO:=Hd (HO.out.trans o4 (by simp));clear KV o4;go_wp2_with fail
  go_ret;exact ⟨rfl,HO.out⟩
end Go.Proofs.YtcebchffcmpfeaaGreat
