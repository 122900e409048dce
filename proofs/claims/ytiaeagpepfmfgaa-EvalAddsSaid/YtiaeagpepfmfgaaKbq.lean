import Derived.Test.YtiaeagpepfmfgaaK8q
import Derived.Test.YtiaeagpepfmfgaaG19q
import Derived.Test.YtiaeagpepfmfgaaG12q
namespace Go.Proofs.Ytiaeagpepfmfgaa
open Go.RowKit Go.Maps
set_option linter.unusedSimpArgs false
set_option linter.unusedVariables false
theorem stS_le {N:Nat} (hN:N≤1000000) {e:St} (hs:sizeS e≤N) (hf:fewS e):stS e≤100000000:=by
 obtain ⟨k,nm,xs,n,bd,els,p⟩:=e
 have h1:=stB_le bd 0 (by omega)
 have h2:=stB_le els 0 (by omega)
 have h3:sizeL xs≤N:=by unfold sizeS at hs;omega
 unfold fewS at hf
 unfold stS
 split
 ·omega
 ·split
  ·rename_i h78
   have h4:=(hf.1 h78)
   have h5:n.toNat*(1+stB 0 bd)≤64*2050:=Nat.mul_le_mul (by omega) (by omega)
   omega
  ·omega
set_option maxRecDepth 100000 in
set_option maxHeartbeats 8000000 in
theorem cstp_step (N:Nat) (hN6:N≤1000000) (IS:CStbP N):CStpP (N+1):=by
 intro e hN w cs B hf hev
 obtain ⟨k,nm,ys,nn,bd,els,p⟩:=e
 have hsy:sizeL ys≤N:=by unfold sizeS at hN;omega
 have hsb:sizeSs bd≤N:=by unfold sizeS at hN;omega
 have hse:sizeSs els≤N:=by unfold sizeS at hN;omega
 unfold fewS at hf
 obtain ⟨hfn,hfb,hfe⟩:=hf
 obtain ⟨R,hR⟩:∃ R,R=stS (.mk k nm ys nn bd els p):=⟨_,rfl⟩
 rw [← hR]
 unfold stS at hR
 unfold SV at hev
 obtain ⟨va,a1,c1,a2,c2,rfl,hxs,hb,hels⟩:=hev
 have hvb:SsV w B (.slice a1 bd.length c1) bd:=⟨a1,c1,rfl,hb⟩
 have hve:SsV w B (.slice a2 els.length c2) els:=⟨a2,c2,rfl,hels⟩
 obtain ⟨a0,c0,rfl,hx0⟩:=hxs
 have hvy:EsV w B (.slice a0 ys.length c0) ys:=⟨a0,c0,rfl,hx0⟩
 obtain ⟨sn,hsn⟩:∃ sn,sn=strOf nm:=⟨_,rfl⟩
 obtain ⟨L0,hL0⟩:∃ L,L=ys.length:=⟨_,rfl⟩
 obtain ⟨L1,hL1⟩:∃ L,L=bd.length:=⟨_,rfl⟩
 obtain ⟨L2,hL2⟩:∃ L,L=els.length:=⟨_,rfl⟩
 rw [← hL0] at hvy
 rw [← hL1] at hvb
 rw [← hL2] at hve
 rw [← hsn,← hL0,← hL1,← hL2]
 have o1:Only [] w (w.alloc (.cells #[.int .i64 k,.string sn,.slice a0 L0 c0,.int .i64 nn,.slice a1 L1 c1,.slice a2 L2 c2,.int .i64 p] 102)):=(Only.refl _ _).alloc _
 have HY:=Lib.hid (heap_new w (.cells #[.int .i64 k,.string sn,.slice a0 L0 c0,.int .i64 nn,.slice a1 L1 c1,.slice a2 L2 c2,.int .i64 p] 102))
 obtain ⟨w1,hw1⟩:∃ w1,w1=w.alloc (.cells #[.int .i64 k,.string sn,.slice a0 L0 c0,.int .i64 nn,.slice a1 L1 c1,.slice a2 L2 c2,.int .i64 p] 102):=⟨_,rfl⟩
 rw [← hw1] at o1 HY
 have K1:=csize_all N hN6 ys hsy w1 _ B (hvy.quiet o1)
 have HVB:=Lib.hid (hvb.quiet o1)
 have HVE:=Lib.hid (hve.quiet o1)
 have HO1:=Lib.hid o1
 have HW:=Lib.hid hw1
 obtain ⟨T,hT⟩:∃ T,T=sizeL ys:=⟨_,rfl⟩
 obtain ⟨X1,hX1⟩:∃ X,X=stB 0 bd:=⟨_,rfl⟩
 obtain ⟨X2,hX2⟩:∃ X,X=stB 0 els:=⟨_,rfl⟩
 have hb1:X1≤2049:=by rw [hX1];exact stB_le bd 0 (by omega)
 have hb2:X2≤2049:=by rw [hX2];exact stB_le els 0 (by omega)
 rw [← hT] at K1 hsy
 rw [← hT,← hX1,← hX2] at hR
 have hTb:T≤1000000:=by omega
 have HR:=Lib.hid hR
 have HX1:=Lib.hid hX1
 have HX2:=Lib.hid hX2
 have HFN:=Lib.hid hfn
 have y2:w1.cell? ⟨w.heap.size,2,none⟩=some (.slice a0 L0 c0):=cell_at 2 HY.out
 clear hb hels hx0 hvb hve hvy hsn hL0 hL1 hL2 o1 hw1 hR hT hX1 hX2 hfn hN
 go_enter Try.func90,Try.ntmps90
 go_upto_region 1 with (fail)
 rw [← HW.out]
 go_wp2_with fail
 refine K1.mono ?_
 rintro en w2 ⟨rfl,ho2⟩
 have HY2:=Lib.hid (ho2.heap HY.out (by simp))
 have HVB2:=Lib.hid (HVB.out.quiet ho2)
 have HVE2:=Lib.hid (HVE.out.quiet ho2)
 have HO2:=Lib.hid (HO1.out.trans ho2 (by simp))
 have y0:w2.cell? ⟨w.heap.size,0,none⟩=some (.int .i64 k):=cell_at 0 HY2.out
 clear ho2 K1 y2
 by_cases h6:k=6
 ·subst h6
  have hRR:R=1+T+max X1 X2:=by rw [HR.out,if_pos rfl]
  have HRR:=Lib.hid hRR
  clear hRR
  go_upto_region 4 with (fail)
  have oD:Only [] w2 w2.drew:=(Only.refl [] w2).drew
  have hYd:=oD.heap HY2.out (by simp)
  refine wp_region_held_drew (S:=fun w'=>w'.cell? ⟨w.heap.size,4,none⟩=some (.slice a1 L1 c1)∧w'.cell? ⟨w.heap.size,5,none⟩=some (.slice a2 L2 c2)) (by kernel_rfl) ⟨cell_at 4 hYd,cell_at 5 hYd⟩ (fun hH=>?_)
  have HVBd:=Lib.hid (HVB2.out.quiet oD)
  have HVEd:=Lib.hid (HVE2.out.quiet oD)
  have HYd:=Lib.hid hYd
  have HOd:=Lib.hid (HO2.out.trans oD (by simp))
  clear oD hYd y0
  generalize w2.drew=wd at HVBd HVEd HYd HOd hH⊢
  refine take_list (i:=0) (v:=?_) rfl (by kernel_rfl) (by kernel_rfl) (by kernel_rfl) (fun _ _ _ h=>h) (Or.inl ⟨by rfl,?_⟩) hH ?_
  rotate_left
  ·((intro w hSw;(try dsimp only at hSw);go_simp);try with_reducible rfl)
  simp only [Act.put,List.setIfInBounds_toArray,List.set_cons_zero,List.set_cons_succ]
  refine take_list (i:=1) (v:=?_) rfl (by kernel_rfl) (by kernel_rfl) (by kernel_rfl) (fun _ _ _ h=>h) (Or.inl ⟨by rfl,?_⟩) hH ?_
  rotate_left
  ·((intro w hSw;(try dsimp only at hSw);go_simp);try with_reducible rfl)
  simp only [Act.put,List.setIfInBounds_toArray,List.set_cons_zero,List.set_cons_succ]
  refine take_list (i:=2) (v:=?_) rfl (by kernel_rfl) (by kernel_rfl) (by kernel_rfl) (fun _ _ _ h=>h) (Or.inl ⟨by rfl,?_⟩) hH ?_
  rotate_left
  ·((intro w hSw;(try dsimp only at hSw);go_simp);try with_reducible rfl)
  simp only [Act.put,List.setIfInBounds_toArray,List.set_cons_zero,List.set_cons_succ]
  refine take_list (i:=4) (v:=?_) rfl (by kernel_rfl) (by kernel_rfl) (by kernel_rfl) (fun _ _ _ h=>h) (Or.inl ⟨by rfl,?_⟩) hH ?_
  rotate_left
  ·((intro w hSw;(try dsimp only at hSw);go_simp);try with_reducible rfl)
  simp only [Act.put,List.setIfInBounds_toArray,List.set_cons_zero,List.set_cons_succ]
  refine take_list (i:=5) (v:=?_) rfl (by kernel_rfl) (by kernel_rfl) (by kernel_rfl) (fun _ _ _ h=>h) (Or.inl ⟨by rfl,?_⟩) hH ?_
  rotate_left
  ·((intro w hSw;(try dsimp only at hSw);go_simp);try with_reducible rfl)
  simp only [Act.put,List.setIfInBounds_toArray,List.set_cons_zero,List.set_cons_succ]
  refine wpAnyH_ready (rs:=[3]) (by kernel_rfl) (by simp) ?_
  refine ready_list rfl (fun K hK=>?_)
  go_simp
  refine (IS bd hsb wd _ B hfb HVBd.out).mono ?_
  rintro en w3 ⟨rfl,ho3⟩
  have HVE3:=Lib.hid (HVEd.out.quiet ho3)
  have HO3:=Lib.hid (HOd.out.trans ho3 (by simp))
  have hY3:=ho3.heap HYd.out (by simp)
  rw [← HX1.out]
  refine hK.out _ _ ⟨cell_at 4 hY3,cell_at 5 hY3⟩ (fun hH=>?_)
  have HY3:=Lib.hid hY3
  clear hK K hY3 ho3
  refine wpAnyH_ready (rs:=[6]) (by kernel_rfl) (by simp) ?_
  refine ready_list rfl (fun K hK=>?_)
  go_simp
  refine (IS els hse w3 _ B hfe HVE3.out).mono ?_
  rintro en w4 ⟨rfl,ho4⟩
  have HO4:=Lib.hid (HO3.out.trans ho4 (by simp))
  have hY4:=ho4.heap HY3.out (by simp)
  rw [← HX2.out]
  refine hK.out _ _ ⟨cell_at 4 hY4,cell_at 5 hY4⟩ (fun hH=>?_)
  clear hK K hY4 ho4
  by_cases hm:X2≤X1
  ·have hmm:¬ (X1:Int) < (X2:Int):=by omega
   rw [Nat.max_eq_left hm] at HRR
   have hwx:IntKind.i64.wrap (1+(T:Int)+(X1:Int))=1+(T:Int)+(X1:Int):=by rw [IntKind.wrap_i64];omega
   refine take_list (i:=7) (v:=?_) rfl (by kernel_rfl) (by kernel_rfl) (by kernel_rfl) (fun _ _ _ h=>h) (Or.inl ⟨by rfl,?_⟩) hH ?_
   rotate_left
   ·((intro w hSw;(try dsimp only at hSw);go_simp);try with_reducible rfl)
   simp only [Act.put,List.setIfInBounds_toArray,List.set_cons_zero,List.set_cons_succ]
   refine take_list (i:=8) (v:=?_) rfl (by kernel_rfl) (by kernel_rfl) (by kernel_rfl) (fun _ _ _ h=>h) (Or.inl ⟨by rfl,?_⟩) hH ?_
   rotate_left
   ·((intro w hSw;(try dsimp only at hSw);go_simp);try with_reducible rfl)
   simp only [Act.put,List.setIfInBounds_toArray,List.set_cons_zero,List.set_cons_succ]
   refine take_list (i:=9) (v:=?_) rfl (by kernel_rfl) (by kernel_rfl) (by kernel_rfl) (fun _ _ _ h=>h) (Or.inl ⟨by rfl,?_⟩) hH ?_
   rotate_left
   ·((intro w hSw;(try dsimp only at hSw);go_simp);try with_reducible rfl)
   simp only [Act.put,List.setIfInBounds_toArray,List.set_cons_zero,List.set_cons_succ]
   refine wpAnyH_done (by kernel_rfl) ?_ _
   clear hH
   go_wp2_with fail
   go_ret
   rw [HRR.out]
   exact ⟨by simp,HO4.out⟩
  ·have hmm:(X1:Int) < (X2:Int):=by omega
   rw [Nat.max_eq_right (by omega)] at HRR
   have hwx:IntKind.i64.wrap (1+(T:Int)+(X2:Int))=1+(T:Int)+(X2:Int):=by rw [IntKind.wrap_i64];omega
   refine take_list (i:=7) (v:=?_) rfl (by kernel_rfl) (by kernel_rfl) (by kernel_rfl) (fun _ _ _ h=>h) (Or.inl ⟨by rfl,?_⟩) hH ?_
   rotate_left
   ·((intro w hSw;(try dsimp only at hSw);go_simp);try with_reducible rfl)
   simp only [Act.put,List.setIfInBounds_toArray,List.set_cons_zero,List.set_cons_succ]
   refine take_list (i:=8) (v:=?_) rfl (by kernel_rfl) (by kernel_rfl) (by kernel_rfl) (fun _ _ _ h=>h) (Or.inl ⟨by rfl,?_⟩) hH ?_
   rotate_left
   ·((intro w hSw;(try dsimp only at hSw);go_simp);try with_reducible rfl)
   simp only [Act.put,List.setIfInBounds_toArray,List.set_cons_zero,List.set_cons_succ]
   refine take_list (i:=9) (v:=?_) rfl (by kernel_rfl) (by kernel_rfl) (by kernel_rfl) (fun _ _ _ h=>h) (Or.inl ⟨by rfl,?_⟩) hH ?_
   rotate_left
   ·((intro w hSw;(try dsimp only at hSw);go_simp);try with_reducible rfl)
   simp only [Act.put,List.setIfInBounds_toArray,List.set_cons_zero,List.set_cons_succ]
   refine wpAnyH_done (by kernel_rfl) ?_ _
   clear hH
   go_wp2_with fail
   go_ret
   rw [HRR.out]
   exact ⟨by simp,HO4.out⟩
 ·by_cases h78:k=7∨k=8
  ·have hRR:R=1+T+nn.toNat*(1+X1):=by rw [HR.out,if_neg h6,if_pos h78]
   obtain ⟨hn0,hn64⟩:=HFN.out h78
   obtain ⟨m,rfl⟩:∃ m:Nat,nn=(m:Int):=⟨nn.toNat,by omega⟩
   rw [show ((m:Int)).toNat=m by omega] at hRR
   obtain ⟨M,hM⟩:∃ M,M=m*(1+X1):=⟨_,rfl⟩
   have hMb:M≤64*2050:=by rw [hM];exact Nat.mul_le_mul (by omega) (by omega)
   have hMi:(m:Int)*(1+(X1:Int))=(M:Int):=by rw [hM];simp
   rw [← hM] at hRR
   have HRR:=Lib.hid hRR
   have HMI:=Lib.hid hMi
   clear hRR hM hMi h6 HFN hn0 hn64
   rcases h78 with rfl | rfl
   ·skip
    go_upto_region 7 with (fail)
    have oD:Only [] w2 w2.drew:=(Only.refl [] w2).drew
    have hYd:=oD.heap HY2.out (by simp)
    refine wp_region_held_drew (S:=fun w'=>w'.cell? ⟨w.heap.size,3,none⟩=some (.int .i64 (m:Int))∧w'.cell? ⟨w.heap.size,4,none⟩=some (.slice a1 L1 c1)) (by kernel_rfl) ⟨cell_at 3 hYd,cell_at 4 hYd⟩ (fun hH=>?_)
    have HVBd:=Lib.hid (HVB2.out.quiet oD)
    have HOd:=Lib.hid (HO2.out.trans oD (by simp))
    have HYd:=Lib.hid hYd
    clear oD hYd y0
    generalize w2.drew=wd at HVBd HYd HOd hH⊢
    refine take_list (i:=0) (v:=?_) rfl (by kernel_rfl) (by kernel_rfl) (by kernel_rfl) (fun _ _ _ h=>h) (Or.inl ⟨by rfl,?_⟩) hH ?_
    rotate_left
    ·((intro w hSw;(try dsimp only at hSw);go_simp);try with_reducible rfl)
    simp only [Act.put,List.setIfInBounds_toArray,List.set_cons_zero,List.set_cons_succ]
    refine take_list (i:=1) (v:=?_) rfl (by kernel_rfl) (by kernel_rfl) (by kernel_rfl) (fun _ _ _ h=>h) (Or.inl ⟨by rfl,?_⟩) hH ?_
    rotate_left
    ·((intro w hSw;(try dsimp only at hSw);go_simp);try with_reducible rfl)
    simp only [Act.put,List.setIfInBounds_toArray,List.set_cons_zero,List.set_cons_succ]
    refine take_list (i:=2) (v:=?_) rfl (by kernel_rfl) (by kernel_rfl) (by kernel_rfl) (fun _ _ _ h=>h) (Or.inl ⟨by rfl,?_⟩) hH ?_
    rotate_left
    ·((intro w hSw;(try dsimp only at hSw);go_simp);try with_reducible rfl)
    simp only [Act.put,List.setIfInBounds_toArray,List.set_cons_zero,List.set_cons_succ]
    refine take_list (i:=3) (v:=?_) rfl (by kernel_rfl) (by kernel_rfl) (by kernel_rfl) (fun _ _ _ h=>h) (Or.inl ⟨by rfl,?_⟩) hH ?_
    rotate_left
    ·((intro w hSw;(try dsimp only at hSw);go_simp);try with_reducible rfl)
    simp only [Act.put,List.setIfInBounds_toArray,List.set_cons_zero,List.set_cons_succ]
    refine take_list (i:=4) (v:=?_) rfl (by kernel_rfl) (by kernel_rfl) (by kernel_rfl) (fun _ _ _ h=>h) (Or.inl ⟨by rfl,?_⟩) hH ?_
    rotate_left
    ·((intro w hSw;(try dsimp only at hSw);go_simp);try with_reducible rfl)
    simp only [Act.put,List.setIfInBounds_toArray,List.set_cons_zero,List.set_cons_succ]
    refine wpAnyH_ready (rs:=[5]) (by kernel_rfl) (by simp) ?_
    refine ready_list rfl (fun K hK=>?_)
    go_simp
    refine (IS bd hsb wd _ B hfb HVBd.out).mono ?_
    rintro en w3 ⟨rfl,ho3⟩
    have HO3:=Lib.hid (HOd.out.trans ho3 (by simp))
    have hY3:=ho3.heap HYd.out (by simp)
    rw [← HX1.out]
    refine hK.out _ _ ⟨cell_at 3 hY3,cell_at 4 hY3⟩ (fun hH=>?_)
    clear hK K hY3 ho3
    have hMI:=HMI.out
    have hw1:IntKind.i64.wrap (1+(X1:Int))=1+(X1:Int):=by rw [IntKind.wrap_i64];omega
    have hw2:IntKind.i64.wrap ((m:Int)*(1+(X1:Int)))=(M:Int):=by rw [hMI,IntKind.wrap_i64];omega
    have hw3:IntKind.i64.wrap (1+(T:Int)+(M:Int))=1+(T:Int)+(M:Int):=by rw [IntKind.wrap_i64];omega
    clear hMI
    refine take_list (i:=6) (v:=?_) rfl (by kernel_rfl) (by kernel_rfl) (by kernel_rfl) (fun _ _ _ h=>h) (Or.inl ⟨by rfl,?_⟩) hH ?_
    rotate_left
    ·((intro w hSw;(try dsimp only at hSw);go_simp);try with_reducible rfl)
    simp only [Act.put,List.setIfInBounds_toArray,List.set_cons_zero,List.set_cons_succ]
    refine take_list (i:=7) (v:=?_) rfl (by kernel_rfl) (by kernel_rfl) (by kernel_rfl) (fun _ _ _ h=>h) (Or.inl ⟨by rfl,?_⟩) hH ?_
    rotate_left
    ·((intro w hSw;(try dsimp only at hSw);go_simp);try with_reducible rfl)
    simp only [Act.put,List.setIfInBounds_toArray,List.set_cons_zero,List.set_cons_succ]
    refine take_list (i:=8) (v:=?_) rfl (by kernel_rfl) (by kernel_rfl) (by kernel_rfl) (fun _ _ _ h=>h) (Or.inl ⟨by rfl,?_⟩) hH ?_
    rotate_left
    ·((intro w hSw;(try dsimp only at hSw);go_simp);try with_reducible rfl)
    simp only [Act.put,List.setIfInBounds_toArray,List.set_cons_zero,List.set_cons_succ]
    refine take_list (i:=9) (v:=?_) rfl (by kernel_rfl) (by kernel_rfl) (by kernel_rfl) (fun _ _ _ h=>h) (Or.inl ⟨by rfl,?_⟩) hH ?_
    rotate_left
    ·((intro w hSw;(try dsimp only at hSw);go_simp);try with_reducible rfl)
    simp only [Act.put,List.setIfInBounds_toArray,List.set_cons_zero,List.set_cons_succ]
    refine wpAnyH_done (by kernel_rfl) ?_ _
    clear hH
    go_wp2_with fail
    go_ret
    rw [HRR.out]
    exact ⟨by simp,HO3.out⟩
   ·skip
    go_upto_region 7 with (fail)
    have oD:Only [] w2 w2.drew:=(Only.refl [] w2).drew
    have hYd:=oD.heap HY2.out (by simp)
    refine wp_region_held_drew (S:=fun w'=>w'.cell? ⟨w.heap.size,3,none⟩=some (.int .i64 (m:Int))∧w'.cell? ⟨w.heap.size,4,none⟩=some (.slice a1 L1 c1)) (by kernel_rfl) ⟨cell_at 3 hYd,cell_at 4 hYd⟩ (fun hH=>?_)
    have HVBd:=Lib.hid (HVB2.out.quiet oD)
    have HOd:=Lib.hid (HO2.out.trans oD (by simp))
    have HYd:=Lib.hid hYd
    clear oD hYd y0
    generalize w2.drew=wd at HVBd HYd HOd hH⊢
    refine take_list (i:=0) (v:=?_) rfl (by kernel_rfl) (by kernel_rfl) (by kernel_rfl) (fun _ _ _ h=>h) (Or.inl ⟨by rfl,?_⟩) hH ?_
    rotate_left
    ·((intro w hSw;(try dsimp only at hSw);go_simp);try with_reducible rfl)
    simp only [Act.put,List.setIfInBounds_toArray,List.set_cons_zero,List.set_cons_succ]
    refine take_list (i:=1) (v:=?_) rfl (by kernel_rfl) (by kernel_rfl) (by kernel_rfl) (fun _ _ _ h=>h) (Or.inl ⟨by rfl,?_⟩) hH ?_
    rotate_left
    ·((intro w hSw;(try dsimp only at hSw);go_simp);try with_reducible rfl)
    simp only [Act.put,List.setIfInBounds_toArray,List.set_cons_zero,List.set_cons_succ]
    refine take_list (i:=2) (v:=?_) rfl (by kernel_rfl) (by kernel_rfl) (by kernel_rfl) (fun _ _ _ h=>h) (Or.inl ⟨by rfl,?_⟩) hH ?_
    rotate_left
    ·((intro w hSw;(try dsimp only at hSw);go_simp);try with_reducible rfl)
    simp only [Act.put,List.setIfInBounds_toArray,List.set_cons_zero,List.set_cons_succ]
    refine take_list (i:=3) (v:=?_) rfl (by kernel_rfl) (by kernel_rfl) (by kernel_rfl) (fun _ _ _ h=>h) (Or.inl ⟨by rfl,?_⟩) hH ?_
    rotate_left
    ·((intro w hSw;(try dsimp only at hSw);go_simp);try with_reducible rfl)
    simp only [Act.put,List.setIfInBounds_toArray,List.set_cons_zero,List.set_cons_succ]
    refine take_list (i:=4) (v:=?_) rfl (by kernel_rfl) (by kernel_rfl) (by kernel_rfl) (fun _ _ _ h=>h) (Or.inl ⟨by rfl,?_⟩) hH ?_
    rotate_left
    ·((intro w hSw;(try dsimp only at hSw);go_simp);try with_reducible rfl)
    simp only [Act.put,List.setIfInBounds_toArray,List.set_cons_zero,List.set_cons_succ]
    refine wpAnyH_ready (rs:=[5]) (by kernel_rfl) (by simp) ?_
    refine ready_list rfl (fun K hK=>?_)
    go_simp
    refine (IS bd hsb wd _ B hfb HVBd.out).mono ?_
    rintro en w3 ⟨rfl,ho3⟩
    have HO3:=Lib.hid (HOd.out.trans ho3 (by simp))
    have hY3:=ho3.heap HYd.out (by simp)
    rw [← HX1.out]
    refine hK.out _ _ ⟨cell_at 3 hY3,cell_at 4 hY3⟩ (fun hH=>?_)
    clear hK K hY3 ho3
    have hMI:=HMI.out
    have hw1:IntKind.i64.wrap (1+(X1:Int))=1+(X1:Int):=by rw [IntKind.wrap_i64];omega
    have hw2:IntKind.i64.wrap ((m:Int)*(1+(X1:Int)))=(M:Int):=by rw [hMI,IntKind.wrap_i64];omega
    have hw3:IntKind.i64.wrap (1+(T:Int)+(M:Int))=1+(T:Int)+(M:Int):=by rw [IntKind.wrap_i64];omega
    clear hMI
    refine take_list (i:=6) (v:=?_) rfl (by kernel_rfl) (by kernel_rfl) (by kernel_rfl) (fun _ _ _ h=>h) (Or.inl ⟨by rfl,?_⟩) hH ?_
    rotate_left
    ·((intro w hSw;(try dsimp only at hSw);go_simp);try with_reducible rfl)
    simp only [Act.put,List.setIfInBounds_toArray,List.set_cons_zero,List.set_cons_succ]
    refine take_list (i:=7) (v:=?_) rfl (by kernel_rfl) (by kernel_rfl) (by kernel_rfl) (fun _ _ _ h=>h) (Or.inl ⟨by rfl,?_⟩) hH ?_
    rotate_left
    ·((intro w hSw;(try dsimp only at hSw);go_simp);try with_reducible rfl)
    simp only [Act.put,List.setIfInBounds_toArray,List.set_cons_zero,List.set_cons_succ]
    refine take_list (i:=8) (v:=?_) rfl (by kernel_rfl) (by kernel_rfl) (by kernel_rfl) (fun _ _ _ h=>h) (Or.inl ⟨by rfl,?_⟩) hH ?_
    rotate_left
    ·((intro w hSw;(try dsimp only at hSw);go_simp);try with_reducible rfl)
    simp only [Act.put,List.setIfInBounds_toArray,List.set_cons_zero,List.set_cons_succ]
    refine take_list (i:=9) (v:=?_) rfl (by kernel_rfl) (by kernel_rfl) (by kernel_rfl) (fun _ _ _ h=>h) (Or.inl ⟨by rfl,?_⟩) hH ?_
    rotate_left
    ·((intro w hSw;(try dsimp only at hSw);go_simp);try with_reducible rfl)
    simp only [Act.put,List.setIfInBounds_toArray,List.set_cons_zero,List.set_cons_succ]
    refine wpAnyH_done (by kernel_rfl) ?_ _
    clear hH
    go_wp2_with fail
    go_ret
    rw [HRR.out]
    exact ⟨by simp,HO3.out⟩
  ·have hRR:R=1+T:=by rw [HR.out,if_neg h6,if_neg h78];rfl
   have HRR:=Lib.hid hRR
   have e6:(k == 6)=false:=by simpa using h6
   have e7:(k == 7)=false:=by simp only [beq_eq_false_iff_ne];exact fun e=>h78 (.inl e)
   have e8:(k == 8)=false:=by simp only [beq_eq_false_iff_ne];exact fun e=>h78 (.inr e)
   clear hRR
   go_wp2_with fail
   go_ret
   rw [HRR.out]
   exact ⟨by simp,HO2.out⟩
theorem cstb_all (N:Nat) (hN:N≤1000000):CStpP N∧CStbP N:=by
 induction N with
 | zero=>
  have h0:CStpP 0:=fun e he=>by cases e;unfold sizeS at he;omega
  exact ⟨h0,cstb_step 0 hN (fun e hs hf=>stS_le hN hs hf) h0⟩
 | succ N ih=>
  obtain ⟨h1,h2⟩:=ih (by omega)
  have h3:=cstp_step N (by omega) h2
  exact ⟨h3,cstb_step (N+1) hN (fun e hs hf=>stS_le hN hs hf) h3⟩
def stD (d:Df):Nat:=min (sizeL d.needs+stB 0 d.body+sizeL d.give) 2049
set_option maxRecDepth 100000 in
set_option maxHeartbeats 8000000 in
theorem coperation_steps {w:World} {B:Nat→Prop} {d:Df} {cs:List Value} (h:DV w B d cs) (h1:sizeL d.needs≤1000000) (h2:sizeSs d.body≤1000000) (h3:sizeL d.give≤1000000) (hf:fewB d.body) :
  Calls Try.prog 67 #[.agg cs.toArray] w fun en w'=>en=.returned (.int .i64 (stD d:Nat))∧Only [] w w':=by
 obtain ⟨v1,v2,v3,v4,rfl,⟨a1,c1,rfl,-⟩,hv2,hv3,hv4⟩:=h
 have HV2:=Lib.hid hv2
 have HV3:=Lib.hid hv3
 have HV4:=Lib.hid hv4
 obtain ⟨a2,c2,rfl,-⟩:=hv2
 obtain ⟨a3,c3,rfl,-⟩:=hv3
 obtain ⟨a4,c4,rfl,-⟩:=hv4
 obtain ⟨nm,ps,nd,bd,gv⟩:=d
 dsimp only at *
 obtain ⟨sn,hsn⟩:∃ sn,sn=strOf nm:=⟨_,rfl⟩
 obtain ⟨L1,hL1⟩:∃ L,L=ps.length:=⟨_,rfl⟩
 obtain ⟨L2,hL2⟩:∃ L,L=nd.length:=⟨_,rfl⟩
 obtain ⟨L3,hL3⟩:∃ L,L=bd.length:=⟨_,rfl⟩
 obtain ⟨L4,hL4⟩:∃ L,L=gv.length:=⟨_,rfl⟩
 obtain ⟨R,hR⟩:∃ R,R=stD ⟨nm,ps,nd,bd,gv⟩:=⟨_,rfl⟩
 unfold stD at hR
 dsimp only at hR
 obtain ⟨T2,hT2⟩:∃ T,T=sizeL nd:=⟨_,rfl⟩
 obtain ⟨T3,hT3⟩:∃ T,T=stB 0 bd:=⟨_,rfl⟩
 obtain ⟨T4,hT4⟩:∃ T,T=sizeL gv:=⟨_,rfl⟩
 have hb3:T3≤2049:=by rw [hT3];exact stB_le bd 0 (by omega)
 have hb2:T2≤1000000:=by omega
 have hb4:T4≤1000000:=by omega
 rw [← hT2,← hT3,← hT4] at hR
 rw [show stD ⟨nm,ps,nd,bd,gv⟩=R by rw [hR];unfold stD;dsimp only;rw [hT2,hT3,hT4]]
 rw [← hL2] at HV2⊢
 rw [← hL3] at HV3⊢
 rw [← hL4] at HV4⊢
 rw [← hsn,← hL1]
 have HR:=Lib.hid hR
 have HT2:=Lib.hid hT2
 have HT3:=Lib.hid hT3
 have HT4:=Lib.hid hT4
 have o1:Only [] w (w.alloc (.cells #[.string sn,.slice a1 L1 c1,.slice a2 L2 c2,.slice a3 L3 c3,.slice a4 L4 c4] 30)):=(Only.refl _ _).alloc _
 have HY:=Lib.hid (heap_new w (.cells #[.string sn,.slice a1 L1 c1,.slice a2 L2 c2,.slice a3 L3 c3,.slice a4 L4 c4] 30))
 obtain ⟨w1,hw1⟩:∃ w1,w1=w.alloc (.cells #[.string sn,.slice a1 L1 c1,.slice a2 L2 c2,.slice a3 L3 c3,.slice a4 L4 c4] 30):=⟨_,rfl⟩
 rw [← hw1] at o1 HY
 have HO1:=Lib.hid o1
 have HW:=Lib.hid hw1
 clear hsn hL1 hL2 hL3 hL4 hR hT2 hT3 hT4 o1 hw1
 go_enter Try.func67,Try.ntmps67
 go_upto_region 1 with (fail)
 rw [← HW.out]
 have oD:Only [] w1 w1.drew:=(Only.refl [] w1).drew
 have hYd:=oD.heap HY.out (by simp)
 refine wp_region_held_drew (S:=fun w'=>w'.cell? ⟨w.heap.size,2,none⟩=some (.slice a2 L2 c2)∧w'.cell? ⟨w.heap.size,3,none⟩=some (.slice a3 L3 c3)∧w'.cell? ⟨w.heap.size,4,none⟩=some (.slice a4 L4 c4)) (by kernel_rfl) ⟨cell_at 2 hYd,cell_at 3 hYd,cell_at 4 hYd⟩ (fun hH=>?_)
 have HOd:=Lib.hid (HO1.out.trans oD (by simp))
 have HYd:=Lib.hid hYd
 clear oD hYd
 generalize w1.drew=wd at HYd HOd hH⊢
 refine take_list (i:=0) (v:=?_) rfl (by kernel_rfl) (by kernel_rfl) (by kernel_rfl) (fun _ _ _ h=>h) (Or.inl ⟨by rfl,?_⟩) hH ?_
 rotate_left
 ·((intro w hSw;(try dsimp only at hSw);go_simp);try with_reducible rfl)
 simp only [Act.put,List.setIfInBounds_toArray,List.set_cons_zero,List.set_cons_succ]
 refine take_list (i:=1) (v:=?_) rfl (by kernel_rfl) (by kernel_rfl) (by kernel_rfl) (fun _ _ _ h=>h) (Or.inl ⟨by rfl,?_⟩) hH ?_
 rotate_left
 ·((intro w hSw;(try dsimp only at hSw);go_simp);try with_reducible rfl)
 simp only [Act.put,List.setIfInBounds_toArray,List.set_cons_zero,List.set_cons_succ]
 refine take_list (i:=3) (v:=?_) rfl (by kernel_rfl) (by kernel_rfl) (by kernel_rfl) (fun _ _ _ h=>h) (Or.inl ⟨by rfl,?_⟩) hH ?_
 rotate_left
 ·((intro w hSw;(try dsimp only at hSw);go_simp);try with_reducible rfl)
 simp only [Act.put,List.setIfInBounds_toArray,List.set_cons_zero,List.set_cons_succ]
 refine take_list (i:=4) (v:=?_) rfl (by kernel_rfl) (by kernel_rfl) (by kernel_rfl) (fun _ _ _ h=>h) (Or.inl ⟨by rfl,?_⟩) hH ?_
 rotate_left
 ·((intro w hSw;(try dsimp only at hSw);go_simp);try with_reducible rfl)
 simp only [Act.put,List.setIfInBounds_toArray,List.set_cons_zero,List.set_cons_succ]
 refine take_list (i:=7) (v:=?_) rfl (by kernel_rfl) (by kernel_rfl) (by kernel_rfl) (fun _ _ _ h=>h) (Or.inl ⟨by rfl,?_⟩) hH ?_
 rotate_left
 ·((intro w hSw;(try dsimp only at hSw);go_simp);try with_reducible rfl)
 simp only [Act.put,List.setIfInBounds_toArray,List.set_cons_zero,List.set_cons_succ]
 refine take_list (i:=8) (v:=?_) rfl (by kernel_rfl) (by kernel_rfl) (by kernel_rfl) (fun _ _ _ h=>h) (Or.inl ⟨by rfl,?_⟩) hH ?_
 rotate_left
 ·((intro w hSw;(try dsimp only at hSw);go_simp);try with_reducible rfl)
 simp only [Act.put,List.setIfInBounds_toArray,List.set_cons_zero,List.set_cons_succ]
 refine wpAnyH_ready (rs:=[2]) (by kernel_rfl) (by simp) ?_
 refine ready_list rfl (fun K hK=>?_)
 go_simp
 refine (csize_all 1000000 (by omega) nd h1 wd _ B (HV2.out.quiet HOd.out)).mono ?_
 rintro en w3 ⟨rfl,ho3⟩
 have HO3:=Lib.hid (HOd.out.trans ho3 (by simp))
 have hY3:=ho3.heap HYd.out (by simp)
 rw [← HT2.out]
 refine hK.out _ _ ⟨cell_at 2 hY3,cell_at 3 hY3,cell_at 4 hY3⟩ (fun hH=>?_)
 have HY3:=Lib.hid hY3
 clear hK K hY3 ho3
 refine wpAnyH_ready (rs:=[5]) (by kernel_rfl) (by simp) ?_
 refine ready_list rfl (fun K hK=>?_)
 go_simp
 refine ((cstb_all 1000000 (by omega)).2 bd h2 w3 _ B hf (HV3.out.quiet HO3.out)).mono ?_
 rintro en w4 ⟨rfl,ho4⟩
 have HO4:=Lib.hid (HO3.out.trans ho4 (by simp))
 have hY4:=ho4.heap HY3.out (by simp)
 rw [← HT3.out]
 refine hK.out _ _ ⟨cell_at 2 hY4,cell_at 3 hY4,cell_at 4 hY4⟩ (fun hH=>?_)
 have HY4:=Lib.hid hY4
 clear hK K hY4 ho4
 have hw1:IntKind.i64.wrap ((T2:Int)+(T3:Int))=(T2:Int)+(T3:Int):=by rw [IntKind.wrap_i64];omega
 refine take_list (i:=6) (v:=?_) rfl (by kernel_rfl) (by kernel_rfl) (by kernel_rfl) (fun _ _ _ h=>h) (Or.inl ⟨by rfl,?_⟩) hH ?_
 rotate_left
 ·((intro w hSw;(try dsimp only at hSw);go_simp);try with_reducible rfl)
 simp only [Act.put,List.setIfInBounds_toArray,List.set_cons_zero,List.set_cons_succ]
 refine wpAnyH_ready (rs:=[9]) (by kernel_rfl) (by simp) ?_
 refine ready_list rfl (fun K hK=>?_)
 go_simp
 refine (csize_all 1000000 (by omega) gv h3 w4 _ B (HV4.out.quiet HO4.out)).mono ?_
 rintro en w5 ⟨rfl,ho5⟩
 have HO5:=Lib.hid (HO4.out.trans ho5 (by simp))
 have hY5:=ho5.heap HY4.out (by simp)
 rw [← HT4.out]
 refine hK.out _ _ ⟨cell_at 2 hY5,cell_at 3 hY5,cell_at 4 hY5⟩ (fun hH=>?_)
 clear hK K hY5 ho5
 have hw2:IntKind.i64.wrap ((T2:Int)+(T3:Int)+(T4:Int))=(T2:Int)+(T3:Int)+(T4:Int):=by rw [IntKind.wrap_i64];omega
 by_cases hm:T2+T3+T4≤2049
 ·have hmm:¬ (2049:Int) < (T2:Int)+(T3:Int)+(T4:Int):=by omega
  refine take_list (i:=10) (v:=?_) rfl (by kernel_rfl) (by kernel_rfl) (by kernel_rfl) (fun _ _ _ h=>h) (Or.inl ⟨by rfl,?_⟩) hH ?_
  rotate_left
  ·((intro w hSw;(try dsimp only at hSw);go_simp);try with_reducible rfl)
  simp only [Act.put,List.setIfInBounds_toArray,List.set_cons_zero,List.set_cons_succ]
  refine take_list (i:=11) (v:=?_) rfl (by kernel_rfl) (by kernel_rfl) (by kernel_rfl) (fun _ _ _ h=>h) (Or.inl ⟨by rfl,?_⟩) hH ?_
  rotate_left
  ·((intro w hSw;(try dsimp only at hSw);go_simp);try with_reducible rfl)
  simp only [Act.put,List.setIfInBounds_toArray,List.set_cons_zero,List.set_cons_succ]
  refine take_list (i:=12) (v:=?_) rfl (by kernel_rfl) (by kernel_rfl) (by kernel_rfl) (fun _ _ _ h=>h) (Or.inl ⟨by rfl,?_⟩) hH ?_
  rotate_left
  ·((intro w hSw;(try dsimp only at hSw);go_simp);try with_reducible rfl)
  simp only [Act.put,List.setIfInBounds_toArray,List.set_cons_zero,List.set_cons_succ]
  refine wpAnyH_done (by kernel_rfl) ?_ _
  clear hH
  go_wp2_with fail
  go_ret
  rw [HR.out,Nat.min_eq_left hm]
  exact ⟨by simp,HO5.out⟩
 ·have hmm:(2049:Int) < (T2:Int)+(T3:Int)+(T4:Int):=by omega
  refine take_list (i:=10) (v:=?_) rfl (by kernel_rfl) (by kernel_rfl) (by kernel_rfl) (fun _ _ _ h=>h) (Or.inl ⟨by rfl,?_⟩) hH ?_
  rotate_left
  ·((intro w hSw;(try dsimp only at hSw);go_simp);try with_reducible rfl)
  simp only [Act.put,List.setIfInBounds_toArray,List.set_cons_zero,List.set_cons_succ]
  refine take_list (i:=11) (v:=?_) rfl (by kernel_rfl) (by kernel_rfl) (by kernel_rfl) (fun _ _ _ h=>h) (Or.inl ⟨by rfl,?_⟩) hH ?_
  rotate_left
  ·((intro w hSw;(try dsimp only at hSw);go_simp);try with_reducible rfl)
  simp only [Act.put,List.setIfInBounds_toArray,List.set_cons_zero,List.set_cons_succ]
  refine take_list (i:=12) (v:=?_) rfl (by kernel_rfl) (by kernel_rfl) (by kernel_rfl) (fun _ _ _ h=>h) (Or.inl ⟨by rfl,?_⟩) hH ?_
  rotate_left
  ·((intro w hSw;(try dsimp only at hSw);go_simp);try with_reducible rfl)
  simp only [Act.put,List.setIfInBounds_toArray,List.set_cons_zero,List.set_cons_succ]
  refine wpAnyH_done (by kernel_rfl) ?_ _
  clear hH
  go_wp2_with fail
  go_ret
  rw [HR.out,Nat.min_eq_right (by omega)]
  exact ⟨by simp,HO5.out⟩
end Go.Proofs.Ytiaeagpepfmfgaa
namespace Go.Proofs.Ytiaeagpepfmfgaa
open Go.RowKit Go.Maps
set_option linter.unusedSimpArgs false
set_option linter.unusedVariables false
def isE (k:Int) (nm:Sec) (n:Nat):Prop:=(k=1∨k=2)∧n=0∨(k=3∨k=4∨k=5)∧n=1∨k=6∧n=2∧(opr nm).2≠0
def isS (k:Int) (n:Nat) (N:Int):Prop:=(k=1∨k=6)∧n=1∨(k=2∨k=3∨k=4∨k=5)∧n=2∨(k=7∨k=8)∧n=0∧0≤N
mutual
def wE:E→Prop | .mk k _ nm xs _=>isE k nm xs.length∧nm.length≤65536∧wL xs
def wL:List E→Prop | []=>True | x :: xs=>wE x∧wL xs
end
mutual
def wS:St→Prop | .mk k nm xs n bd els _=>isS k xs.length n∧nm.length≤65536∧wL xs∧wB bd∧wB els
def wB:List St→Prop | []=>True | x :: xs=>wS x∧wB xs
end
theorem wL_mem:∀ {xs:List E} {j:Nat} {e:E},wL xs→xs[j]?=some e→wE e
 | [],j,e,_,h=>by simp at h
 | x :: xs,0,e,h,hj=>by unfold wL at h;simp at hj;subst hj;exact h.1
 | x :: xs,j+1,e,h,hj=>by unfold wL at h;exact wL_mem h.2 (by simpa using hj)
theorem wB_mem:∀ {xs:List St} {j:Nat} {e:St},wB xs→xs[j]?=some e→wS e
 | [],j,e,_,h=>by simp at h
 | x :: xs,0,e,h,hj=>by unfold wB at h;simp at hj;subst hj;exact h.1
 | x :: xs,j+1,e,h,hj=>by unfold wB at h;exact wB_mem h.2 (by simpa using hj)
theorem sizeSs_snoc (l:List St) (e:St):sizeSs (l++[e])=sizeSs l+sizeS e:=by
 induction l with
 | nil=>simp [sizeSs]
 | cons x l ih=>simp [sizeSs,ih];omega
theorem sizeSs_take {xs:List St} {j:Nat} {e:St} (hj:xs[j]?=some e):sizeSs (xs.take (j+1))=sizeSs (xs.take j)+sizeS e:=by
 rw [List.take_add_one,hj,Option.toList_some,sizeSs_snoc]
theorem sizeSs_take_le (xs:List St) (j:Nat):sizeSs (xs.take j)≤sizeSs xs:=by
 induction xs generalizing j with
 | nil=>simp
 | cons x xs ih=>
  cases j with
  | zero=>simp [sizeSs]
  | succ j=>have:=ih j;simp [sizeSs];omega
set_option maxRecDepth 100000 in
set_option maxHeartbeats 4000000 in
theorem cisExpr_any (w:World) (k n p:Int) (nm:Sec) (a:Option Addr) (L c:Nat) (h:isE k nm L) :
  Calls Try.prog 78 #[.agg #[.int .i64 k,.int .i64 n,.string (strOf nm),.slice a L c,.int .i64 p]] w fun en w'=>en=.returned (.bool true)∧Only [] w w':=by
 rcases h with ⟨h,rfl⟩ | ⟨h,rfl⟩ | ⟨rfl,rfl,ho⟩
 ·rcases h with rfl | rfl<;>
  ·go_enter Try.func78,Try.ntmps78
   go_wp2_with fail
   go_ret
   exact ⟨rfl,(Only.refl _ _).alloc _⟩
 ·rcases h with rfl | rfl | rfl<;>
  ·go_enter Try.func78,Try.ntmps78
   go_wp2_with fail
   go_ret
   exact ⟨rfl,(Only.refl _ _).alloc _⟩
 ·obtain ⟨sn,hsn⟩:∃ sn,sn=strOf nm:=⟨_,rfl⟩
  have KO:=coperator_any sn
  rw [show sn.data.toList=nm by rw [hsn];simp [strOf]] at KO
  rw [← hsn]
  obtain ⟨wh,hwh⟩:∃ wh,wh=(opr nm).2:=⟨_,rfl⟩
  rw [← hwh] at KO ho
  generalize (opr nm).1=pa at KO
  have ho':(wh != 0)=true:=by simpa using ho
  clear hsn hwh ho
  go_enter Try.func78,Try.ntmps78
  go_wp2_with fail
  refine (KO _).mono ?_
  rintro en w' ⟨rfl,rfl⟩
  go_wp2_with fail
  go_ret
  exact ⟨rfl,(Only.refl _ _).alloc _⟩
set_option maxRecDepth 100000 in
set_option maxHeartbeats 4000000 in
theorem cisStmt_any (w:World) (k N p:Int) (sn:ByteArray) (a a1 a2:Option Addr) (L c L1 c1 L2 c2:Nat) (h:isS k L N) :
  Calls Try.prog 79 #[.agg #[.int .i64 k,.string sn,.slice a L c,.int .i64 N,.slice a1 L1 c1,.slice a2 L2 c2,.int .i64 p]] w fun en w'=>en=.returned (.bool true)∧Only [] w w':=by
 rcases h with ⟨h,rfl⟩ | ⟨h,rfl⟩ | ⟨h,rfl,hN⟩
 ·rcases h with rfl | rfl<;>
  ·go_enter Try.func79,Try.ntmps79
   go_wp2_with fail
   go_ret
   exact ⟨rfl,(Only.refl _ _).alloc _⟩
 ·rcases h with rfl | rfl | rfl | rfl<;>
  ·go_enter Try.func79,Try.ntmps79
   go_wp2_with fail
   go_ret
   exact ⟨rfl,(Only.refl _ _).alloc _⟩
 ·rcases h with rfl | rfl<;>
  ·go_enter Try.func79,Try.ntmps79
   go_wp2_with fail
   go_ret
   exact ⟨rfl,(Only.refl _ _).alloc _⟩
def Left (w:World) (g:Nat) (n:Nat):Prop:=w.heap[g]?=some (.cells #[.int .i64 (n:Int)] 131 (0,0))
def CWlP (N:Nat):Prop:=∀ (xs:List E),sizeL xs≤N→∀ (w:World) (g lf:Nat) (v:Value) (B:Nat→Prop),Left w g lf→sizeL xs≤lf→lf≤480→wL xs→EsV w B v xs→¬ B g→
 Calls Try.prog 62 #[.pointer (some ⟨g,0,none⟩),v] w fun en w'=>en=.returned (.bool true)∧Left w' g (lf - sizeL xs)∧Only [g] w w'
set_option maxRecDepth 100000 in
set_option maxHeartbeats 8000000 in
theorem cwl_step (N:Nat) (IS:∀ M,M < N→CWlP M):CWlP N:=by
 intro xs hN w g lf v B hL hle hlf hok hv hB
 obtain ⟨a,cap,rfl,hcap,hx⟩:=hv
 have hlen:xs.length≤sizeL xs:=by
  clear hN hcap hx hok hle
  induction xs with
  | nil=>exact Nat.le_refl _
  | cons e es ih=>
   have:1≤sizeE e:=by cases e;unfold sizeE;omega
   unfold sizeL
   simp
   omega
 have HX:=Lib.hid hx
 have HL:=Lib.hid hL
 have HOK:=Lib.hid hok
 obtain ⟨n,hn⟩:∃ n,n=xs.length:=⟨_,rfl⟩
 rw [← hn] at hlen⊢
 have HN:=Lib.hid hn
 have hnb:n≤480:=by omega
 clear hx hn hcap hL hok
 go_enter Try.func62,Try.ntmps62
 go_wp2_with fail
 go_loopw [9] (fun ix wr=>∃ (j:Nat),j≤n∧ix=.int .i64 (j:Int)∧Hid (Left wr g (lf - sizeL (xs.take j)))∧Hid (Only [g] w wr)) (fun ix _=>n - (intOf ix).toNat)
 case atStart=>exact ⟨0,Nat.zero_le _,rfl,Lib.hid (by simpa [sizeL] using HL.out),Lib.hid (Only.refl _ _)⟩
 case round=>
  obtain ⟨j,hjn,rfl,HLF,HO⟩:=hrel
  by_cases hlt:j < n
  ·have hlt':(j:Int) < (n:Int):=by omega
   have j0:(0:Int)≤(j:Int):=by omega
   obtain ⟨e,he⟩:∃ e,xs[j]?=some e:=⟨_,List.getElem?_eq_getElem (by rw [← HN.out];exact hlt)⟩
   obtain ⟨gr,rfl,hgr,hes⟩:∃ gr,a=some ⟨gr,0,none⟩∧B gr∧EsAt w B gr 0 xs:=by
    rcases HX.out with hx | hx
    ·rw [hx] at he;simp at he
    ·exact hx
   obtain ⟨cs,hev,hcs⟩:=(EsAt.eso xs 0 0 rfl hes).kept HO.out (by simpa using hB) hgr j e he
   have hwe:=wL_mem HOK.out he
   obtain ⟨k,nn,nm,ys,p⟩:=e
   have hT1:=sizeL_take he
   have hT2:=sizeL_take_le xs (j+1)
   unfold sizeE at hT1
   unfold EV at hev
   unfold wE at hwe
   obtain ⟨hwk,hwn,hwl⟩:=hwe
   obtain ⟨a',cap',rfl,hc',hx'⟩:=hev
   have x0:wr.cell? ⟨gr,j*5,none⟩=some (.int .i64 k):=by simpa using hcs 0 _ rfl
   have x1:wr.cell? ⟨gr,j*5+1,none⟩=some (.int .i64 nn):=by simpa using hcs 1 _ rfl
   have x2:wr.cell? ⟨gr,j*5+2,none⟩=some (.string (strOf nm)):=by simpa using hcs 2 _ rfl
   have x3:wr.cell? ⟨gr,j*5+3,none⟩=some (.slice a' ys.length cap'):=by simpa using hcs 3 _ rfl
   have x4:wr.cell? ⟨gr,j*5+4,none⟩=some (.int .i64 p):=by simpa using hcs 4 _ rfl
   have hev2:=EsV.of_parts hc' hx'
   obtain ⟨L,hL⟩:∃ L,L=ys.length:=⟨_,rfl⟩
   rw [← hL] at x3 hev2 hwk
   obtain ⟨Y,hY⟩:∃ Y,Y=sizeL ys:=⟨_,rfl⟩
   obtain ⟨T,hT⟩:∃ T,T=sizeL (xs.take j):=⟨_,rfl⟩
   obtain ⟨X,hX⟩:∃ X,X=sizeL xs:=⟨_,rfl⟩
   obtain ⟨T',hT'⟩:∃ T',T'=sizeL (xs.take (j+1)):=⟨_,rfl⟩
   rw [← hY,← hT,← hT'] at hT1
   rw [← hT',← hX] at hT2
   have hlf1:=HLF.out
   rw [← hT] at hlf1
   rw [← hX] at hN hle
   obtain ⟨l0,hl0⟩:∃ l0,lf - T=l0+1+Y∧lf - T'=l0:=⟨lf - T',by omega,rfl⟩
   rw [hl0.1] at hlf1
   have hYN:sizeL ys < N:=by rw [← hY];omega
   have HT':=Lib.hid (And.intro hT' hl0.2)
   have hl1:l0+1+Y≤480:=by omega
   obtain ⟨z,hz⟩:∃ z:Int,z=((l0+1+Y:Nat):Int):=⟨_,rfl⟩
   obtain ⟨q,hq⟩:∃ q:Nat,q=l0+Y:=⟨_,rfl⟩
   have hw0:wrap64 (z - 1)=(q:Int):=by unfold wrap64;omega
   have hq0:¬ (q:Int) < 0:=by omega
   have hq480:q≤480:=by omega
   have hqY:Y≤q:=by omega
   have hql:q - Y=l0:=by omega
   unfold Left at hlf1
   rw [← hz] at hlf1
   have cl:wr.cell? ⟨g,0,none⟩=some (.int .i64 z):=cell_at 0 hlf1
   have KI:=fun W=>cisExpr_any W k nn p nm a' L cap' hwk
   have IS':=IS _ hYN
   obtain ⟨sn,hsn⟩:∃ sn,sn=strOf nm:=⟨_,rfl⟩
   rw [← hsn] at x2 KI
   have HEV:=Lib.hid hev2
   have HLF1:=Lib.hid hlf1
   have HY:=Lib.hid hY
   have hgb:g < wr.heap.size:=lt_of_heap hlf1
   have HWL:=Lib.hid hwl
   clear hev2 hcs he hsn hL hes hx' hY hT1 hT' hT2 hYN hN hlen hlf1 hT hX hl0 HLF hle hlf hwl hwk hwn hz hq hl1
   go_upto_region 4 with (fail)
   have o5:Only [] wr (wr.alloc (.cells #[.int .i64 k,.int .i64 nn,.string sn,.slice a' L cap',.int .i64 p] 70)):=(Only.refl _ _).alloc _
   have hY5:=heap_new wr (.cells #[.int .i64 k,.int .i64 nn,.string sn,.slice a' L cap',.int .i64 p] 70)
   generalize wr.alloc (.cells #[.int .i64 k,.int .i64 nn,.string sn,.slice a' L cap',.int .i64 p] 70)=w5 at o5 hY5⊢
   have cl5:w5.cell? ⟨g,0,none⟩=some (.int .i64 z):=cell_kept o5 cl (by simp)
   have hLF5:=o5.heap HLF1.out (by simp)
   have gl5:=free_at 0 hLF5
   have hgw:g≠wr.heap.size:=by omega
   go_upto_region 5 with (fail)
   have oz:Only [g] w5 (w5.setCell ⟨g,0,none⟩ (.int .i64 (q:Int))):=(Only.refl _ _).setCell (.inl (by simp)) _
   have hl6:Left (w5.setCell ⟨g,0,none⟩ (.int .i64 (q:Int))) g q:=heap_cell (i:=0) (.int .i64 (q:Int)) hLF5
   have hY6:=oz.heap hY5 (by simpa using fun e=>hgw e.symm)
   generalize w5.setCell ⟨g,0,none⟩ (.int .i64 (q:Int))=w6 at oz hl6 hY6⊢
   have cl6:w6.cell? ⟨g,0,none⟩=some (.int .i64 (q:Int)):=cell_at 0 hl6
   have y0:w6.cell? ⟨wr.heap.size,0,none⟩=some (.int .i64 k):=cell_at 0 hY6
   have y1:w6.cell? ⟨wr.heap.size,1,none⟩=some (.int .i64 nn):=cell_at 1 hY6
   have y2:w6.cell? ⟨wr.heap.size,2,none⟩=some (.string sn):=cell_at 2 hY6
   have y3:w6.cell? ⟨wr.heap.size,3,none⟩=some (.slice a' L cap'):=cell_at 3 hY6
   have y4:w6.cell? ⟨wr.heap.size,4,none⟩=some (.int .i64 p):=cell_at 4 hY6
   have HO6:=Lib.hid ((HO.out.trans o5 (by simp)).trans oz (fun k hk=>.inl hk))
   have HL6:=Lib.hid hl6
   have HY6:=Lib.hid hY6
   have HEV6:=Lib.hid ((HEV.out.quiet o5).kept oz (by simpa using hB) (fun _ h=>h))
   have KI6:=KI w6
   clear o5 hY5 cl5 hLF5 gl5 oz hl6 hY6 cl x0 x1 x2 x3 x4 KI
   go_wp2_with fail
   refine KI6.mono ?_
   rintro en w7 ⟨rfl,ho7⟩
   have HL7:=Lib.hid (show Left w7 g q from ho7.heap HL6.out (by simp))
   have hY7:=ho7.heap HY6.out (by simp)
   have y3:w7.cell? ⟨wr.heap.size,3,none⟩=some (.slice a' L cap'):=cell_at 3 hY7
   have K7:=IS' ys (Nat.le_refl _) w7 g q _ B HL7.out (by rw [← HY.out];exact hqY) hq480 HWL.out (HEV6.out.quiet ho7) hB
   have HO7:=Lib.hid (HO6.out.trans ho7 (by simp))
   clear ho7 hY7 KI6 y0 y1 y2 y4 cl6
   go_wp2_with fail
   refine K7.mono ?_
   rintro en w8 ⟨rfl,hl8,ho8⟩
   rw [← HY.out,hql] at hl8
   have HL8:=Lib.hid hl8
   have HO8:=Lib.hid (HO7.out.trans ho8 (fun k hk=>.inl hk))
   clear hl8 ho8 K7 y3
   go_wp2_with fail
   refine ⟨⟨j+1,by omega,rfl,Lib.hid (by rw [← HT'.out.1,HT'.out.2];exact HL8.out),HO8⟩,?_⟩
   simp [intOf]
   omega
  ·obtain rfl:j=n:=by omega
   have hR:xs.take j=xs:=by rw [HN.out,List.take_length]
   have HR:=Lib.hid hR
   clear hR
   go_wp2_with fail
   go_ret
   exact ⟨rfl,by have:=HLF.out;rw [HR.out] at this;exact this,HO.out⟩
end Go.Proofs.Ytiaeagpepfmfgaa
namespace Go.Proofs.Ytiaeagpepfmfgaa
open Go.RowKit Go.Maps
set_option linter.unusedSimpArgs false
set_option linter.unusedVariables false
theorem cwl_all (N:Nat):CWlP N:=by
 induction N using Nat.strongRecOn with
 | _ N ih=>exact cwl_step N ih
def CWsP (N:Nat):Prop:=∀ (xs:List St),sizeSs xs≤N→∀ (w:World) (g lf:Nat) (v:Value) (B:Nat→Prop),Left w g lf→sizeSs xs≤lf→lf≤480→wB xs→SsV w B v xs→¬ B g→
 Calls Try.prog 63 #[.pointer (some ⟨g,0,none⟩),v] w fun en w'=>en=.returned (.bool true)∧Left w' g (lf - sizeSs xs)∧Only [g] w w'
set_option maxRecDepth 100000 in
set_option maxHeartbeats 8000000 in
theorem cws_step (N:Nat) (IS:∀ M,M < N→CWsP M):CWsP N:=by
 intro xs hN w g lf v B hL hle hlf hok hv hB
 obtain ⟨a,cap,rfl,hcap,hx⟩:=hv
 have hlen:=sizeSs_len xs
 have HX:=Lib.hid hx
 have HL:=Lib.hid hL
 have HOK:=Lib.hid hok
 obtain ⟨n,hn⟩:∃ n,n=xs.length:=⟨_,rfl⟩
 rw [← hn] at hlen⊢
 have HN:=Lib.hid hn
 have hnb:n≤480:=by omega
 clear hx hn hcap hL hok
 go_enter Try.func63,Try.ntmps63
 go_wp2_with fail
 go_loopw [9] (fun ix wr=>∃ (j:Nat),j≤n∧ix=.int .i64 (j:Int)∧Hid (Left wr g (lf - sizeSs (xs.take j)))∧Hid (Only [g] w wr)) (fun ix _=>n - (intOf ix).toNat)
 case atStart=>exact ⟨0,Nat.zero_le _,rfl,Lib.hid (by simpa [sizeSs] using HL.out),Lib.hid (Only.refl _ _)⟩
 case round=>
  obtain ⟨j,hjn,rfl,HLF,HO⟩:=hrel
  by_cases hlt:j < n
  ·have hlt':(j:Int) < (n:Int):=by omega
   have j0:(0:Int)≤(j:Int):=by omega
   obtain ⟨e,he⟩:∃ e,xs[j]?=some e:=⟨_,List.getElem?_eq_getElem (by rw [← HN.out];exact hlt)⟩
   obtain ⟨gr,rfl,hgr,hes⟩:∃ gr,a=some ⟨gr,0,none⟩∧B gr∧SsAt w B gr 0 xs:=by
    rcases HX.out with hx | hx
    ·rw [hx] at he;simp at he
    ·exact hx
   obtain ⟨cs,hev,hcs⟩:=SsAt.get xs 0 (SsAt.kept HO.out (by simpa using hB) (fun _ h=>h) hgr 0 xs hes) j e he
   have hwe:=wB_mem HOK.out he
   obtain ⟨k,nm,ys,nn,bd,els,p⟩:=e
   have hT1:=sizeSs_take he
   have hT2:=sizeSs_take_le xs (j+1)
   unfold sizeS at hT1
   unfold SV at hev
   unfold wS at hwe
   obtain ⟨hwk,hwn,hwl,hwb,hwe⟩:=hwe
   obtain ⟨va,a1,c1,a2,c2,rfl,hxs,hb,hels⟩:=hev
   have hvb:SsV wr B (.slice a1 bd.length c1) bd:=⟨a1,c1,rfl,hb⟩
   have hve:SsV wr B (.slice a2 els.length c2) els:=⟨a2,c2,rfl,hels⟩
   obtain ⟨a0,c0,rfl,hx0⟩:=hxs
   have hvy:EsV wr B (.slice a0 ys.length c0) ys:=⟨a0,c0,rfl,hx0⟩
   have x0:wr.cell? ⟨gr,j*7,none⟩=some (.int .i64 k):=by simpa using hcs 0 _ rfl
   have x1:wr.cell? ⟨gr,j*7+1,none⟩=some (.string (strOf nm)):=by simpa using hcs 1 _ rfl
   have x2:wr.cell? ⟨gr,j*7+2,none⟩=some (.slice a0 ys.length c0):=by simpa using hcs 2 _ rfl
   have x3:wr.cell? ⟨gr,j*7+3,none⟩=some (.int .i64 nn):=by simpa using hcs 3 _ rfl
   have x4:wr.cell? ⟨gr,j*7+4,none⟩=some (.slice a1 bd.length c1):=by simpa using hcs 4 _ rfl
   have x5:wr.cell? ⟨gr,j*7+5,none⟩=some (.slice a2 els.length c2):=by simpa using hcs 5 _ rfl
   have x6:wr.cell? ⟨gr,j*7+6,none⟩=some (.int .i64 p):=by simpa using hcs 6 _ rfl
   obtain ⟨sn,hsn⟩:∃ sn,sn=strOf nm:=⟨_,rfl⟩
   obtain ⟨L0,hL0⟩:∃ L,L=ys.length:=⟨_,rfl⟩
   obtain ⟨L1,hL1⟩:∃ L,L=bd.length:=⟨_,rfl⟩
   obtain ⟨L2,hL2⟩:∃ L,L=els.length:=⟨_,rfl⟩
   rw [← hsn] at x1
   rw [← hL0] at x2 hvy hwk
   rw [← hL1] at x4 hvb
   rw [← hL2] at x5 hve
   obtain ⟨Y0,hY0⟩:∃ Y,Y=sizeL ys:=⟨_,rfl⟩
   obtain ⟨Y1,hY1⟩:∃ Y,Y=sizeSs bd:=⟨_,rfl⟩
   obtain ⟨Y2,hY2⟩:∃ Y,Y=sizeSs els:=⟨_,rfl⟩
   obtain ⟨T,hT⟩:∃ T,T=sizeSs (xs.take j):=⟨_,rfl⟩
   obtain ⟨X,hX⟩:∃ X,X=sizeSs xs:=⟨_,rfl⟩
   obtain ⟨T',hT'⟩:∃ T',T'=sizeSs (xs.take (j+1)):=⟨_,rfl⟩
   rw [← hY0,← hY1,← hY2,← hT,← hT'] at hT1
   rw [← hT',← hX] at hT2
   have hlf1:=HLF.out
   rw [← hT] at hlf1
   rw [← hX] at hN hle
   obtain ⟨l0,hl0⟩:∃ l0,lf - T=l0+1+(Y0+Y1+Y2)∧lf - T'=l0:=⟨lf - T',by omega,rfl⟩
   rw [hl0.1] at hlf1
   have hN1:sizeSs bd < N:=by rw [← hY1];omega
   have hN2:sizeSs els < N:=by rw [← hY2];omega
   have HT':=Lib.hid (And.intro hT' hl0.2)
   obtain ⟨z,hz⟩:∃ z:Int,z=((l0+1+(Y0+Y1+Y2):Nat):Int):=⟨_,rfl⟩
   obtain ⟨q,hq⟩:∃ q:Nat,q=l0+(Y0+Y1+Y2):=⟨_,rfl⟩
   have hw0:wrap64 (z - 1)=(q:Int):=by unfold wrap64;omega
   have hq0:¬ (q:Int) < 0:=by omega
   have HQ:=Lib.hid (show q≤480∧Y0≤q∧Y1≤q - Y0∧Y2≤q - Y0 - Y1∧q - Y0 - Y1 - Y2=l0 by omega)
   unfold Left at hlf1
   rw [← hz] at hlf1
   have cl:wr.cell? ⟨g,0,none⟩=some (.int .i64 z):=cell_at 0 hlf1
   have KI:=fun W=>cisStmt_any W k nn p sn a0 a1 a2 L0 c0 L1 c1 L2 c2 hwk
   have IS1:=IS _ hN1
   have IS2:=IS _ hN2
   have HVY:=Lib.hid hvy
   have HVB:=Lib.hid hvb
   have HVE:=Lib.hid hve
   have HLF1:=Lib.hid hlf1
   have HY0:=Lib.hid hY0
   have HY1:=Lib.hid hY1
   have HY2:=Lib.hid hY2
   have hgb:g < wr.heap.size:=lt_of_heap hlf1
   have HWL:=Lib.hid (And.intro hwl (And.intro hwb hwe))
   clear hvy hvb hve hx0 hb hels hcs he hsn hL0 hL1 hL2 hes hY0 hY1 hY2 hT1 hT' hT2 hN1 hN2 hN hlen hlf1 hT hX hl0 HLF hle hlf hwl hwk hwn hwb hwe hz hq
   go_upto_region 4 with (fail)
   have o5:Only [] wr (wr.alloc (.cells #[.int .i64 k,.string sn,.slice a0 L0 c0,.int .i64 nn,.slice a1 L1 c1,.slice a2 L2 c2,.int .i64 p] 102)):=(Only.refl _ _).alloc _
   have hY5:=heap_new wr (.cells #[.int .i64 k,.string sn,.slice a0 L0 c0,.int .i64 nn,.slice a1 L1 c1,.slice a2 L2 c2,.int .i64 p] 102)
   generalize wr.alloc (.cells #[.int .i64 k,.string sn,.slice a0 L0 c0,.int .i64 nn,.slice a1 L1 c1,.slice a2 L2 c2,.int .i64 p] 102)=w5 at o5 hY5⊢
   have cl5:w5.cell? ⟨g,0,none⟩=some (.int .i64 z):=cell_kept o5 cl (by simp)
   have hLF5:=o5.heap HLF1.out (by simp)
   have gl5:=free_at 0 hLF5
   have hgw:g≠wr.heap.size:=by omega
   go_upto_region 5 with (fail)
   have oz:Only [g] w5 (w5.setCell ⟨g,0,none⟩ (.int .i64 (q:Int))):=(Only.refl _ _).setCell (.inl (by simp)) _
   have hl6:Left (w5.setCell ⟨g,0,none⟩ (.int .i64 (q:Int))) g q:=heap_cell (i:=0) (.int .i64 (q:Int)) hLF5
   have hY6:=oz.heap hY5 (by simpa using fun e=>hgw e.symm)
   generalize w5.setCell ⟨g,0,none⟩ (.int .i64 (q:Int))=w6 at oz hl6 hY6⊢
   have cl6:w6.cell? ⟨g,0,none⟩=some (.int .i64 (q:Int)):=cell_at 0 hl6
   have y0:w6.cell? ⟨wr.heap.size,0,none⟩=some (.int .i64 k):=cell_at 0 hY6
   have y1:w6.cell? ⟨wr.heap.size,1,none⟩=some (.string sn):=cell_at 1 hY6
   have y2:w6.cell? ⟨wr.heap.size,2,none⟩=some (.slice a0 L0 c0):=cell_at 2 hY6
   have y3:w6.cell? ⟨wr.heap.size,3,none⟩=some (.int .i64 nn):=cell_at 3 hY6
   have y4:w6.cell? ⟨wr.heap.size,4,none⟩=some (.slice a1 L1 c1):=cell_at 4 hY6
   have y5:w6.cell? ⟨wr.heap.size,5,none⟩=some (.slice a2 L2 c2):=cell_at 5 hY6
   have y6:w6.cell? ⟨wr.heap.size,6,none⟩=some (.int .i64 p):=cell_at 6 hY6
   have o56:Only [g] wr w6:=(o5.mono (T:=[g]) (by simp)).trans oz (fun k hk=>.inl hk)
   have HO6:=Lib.hid (HO.out.trans o56 (fun k hk=>.inl hk))
   have HL6:=Lib.hid hl6
   have HY6:=Lib.hid hY6
   replace HVY:=Lib.hid (HVY.out.kept o56 (by simpa using hB) (fun _ h=>h))
   replace HVB:=Lib.hid (HVB.out.kept o56 (by simpa using hB) (fun _ h=>h))
   replace HVE:=Lib.hid (HVE.out.kept o56 (by simpa using hB) (fun _ h=>h))
   have KI6:=KI w6
   clear o5 hY5 cl5 hLF5 gl5 oz hl6 hY6 cl x0 x1 x2 x3 x4 x5 x6 KI o56
   go_wp2_with fail
   refine KI6.mono ?_
   rintro en w7 ⟨rfl,ho7⟩
   have HL7:=Lib.hid (show Left w7 g q from ho7.heap HL6.out (by simp))
   have HY7:=Lib.hid (ho7.heap HY6.out (by simp))
   replace HVY:=Lib.hid (HVY.out.quiet ho7)
   replace HVB:=Lib.hid (HVB.out.quiet ho7)
   replace HVE:=Lib.hid (HVE.out.quiet ho7)
   have y2:w7.cell? ⟨wr.heap.size,2,none⟩=some (.slice a0 L0 c0):=cell_at 2 HY7.out
   have K7:=cwl_all _ ys (Nat.le_refl _) w7 g q _ B HL7.out (by rw [← HY0.out];exact HQ.out.2.1) HQ.out.1 HWL.out.1 HVY.out hB
   have HO7:=Lib.hid (HO6.out.trans ho7 (by simp))
   clear ho7 KI6 y0 y1 y3 y4 y5 y6 cl6
   go_wp2_with fail
   refine K7.mono ?_
   rintro en w8 ⟨rfl,hl8,ho8⟩
   rw [← HY0.out] at hl8
   have HL8:=Lib.hid hl8
   have HY8:=Lib.hid (ho8.heap HY7.out (by simpa using fun e=>hgw e.symm))
   replace HVB:=Lib.hid (HVB.out.kept ho8 (by simpa using hB) (fun _ h=>h))
   replace HVE:=Lib.hid (HVE.out.kept ho8 (by simpa using hB) (fun _ h=>h))
   have y4:w8.cell? ⟨wr.heap.size,4,none⟩=some (.slice a1 L1 c1):=cell_at 4 HY8.out
   have K8:=IS1 bd (Nat.le_refl _) w8 g (q - Y0) _ B hl8 (by rw [← HY1.out];exact HQ.out.2.2.1) (by have:=HQ.out.1;omega) HWL.out.2.1 HVB.out hB
   have HO8:=Lib.hid (HO7.out.trans ho8 (fun k hk=>.inl hk))
   clear ho8 hl8 K7 y2
   go_wp2_with fail
   refine K8.mono ?_
   rintro en w9 ⟨rfl,hl9,ho9⟩
   rw [← HY1.out] at hl9
   have HY9:=Lib.hid (ho9.heap HY8.out (by simpa using fun e=>hgw e.symm))
   replace HVE:=Lib.hid (HVE.out.kept ho9 (by simpa using hB) (fun _ h=>h))
   have y5:w9.cell? ⟨wr.heap.size,5,none⟩=some (.slice a2 L2 c2):=cell_at 5 HY9.out
   have K9:=IS2 els (Nat.le_refl _) w9 g (q - Y0 - Y1) _ B hl9 (by rw [← HY2.out];exact HQ.out.2.2.2.1) (by have:=HQ.out.1;omega) HWL.out.2.2 HVE.out hB
   have HO9:=Lib.hid (HO8.out.trans ho9 (fun k hk=>.inl hk))
   clear ho9 hl9 K8 y4
   go_wp2_with fail
   refine K9.mono ?_
   rintro en w10 ⟨rfl,hl10,ho10⟩
   rw [← HY2.out,HQ.out.2.2.2.2] at hl10
   have HL10:=Lib.hid hl10
   have HO10:=Lib.hid (HO9.out.trans ho10 (fun k hk=>.inl hk))
   clear hl10 ho10 K9 y5
   go_wp2_with fail
   refine ⟨⟨j+1,by omega,rfl,Lib.hid (by rw [← HT'.out.1,HT'.out.2];exact HL10.out),HO10⟩,?_⟩
   simp [intOf]
   omega
  ·obtain rfl:j=n:=by omega
   have hR:xs.take j=xs:=by rw [HN.out,List.take_length]
   have HR:=Lib.hid hR
   clear hR
   go_wp2_with fail
   go_ret
   exact ⟨rfl,by have:=HLF.out;rw [HR.out] at this;exact this,HO.out⟩
theorem cws_all (N:Nat):CWsP N:=by
 induction N using Nat.strongRecOn with
 | _ N ih=>exact cws_step N ih
theorem SsV.lt {w:World} {B:Nat→Prop} {v:Value} {l:List St} (h:SsV w B v l):SsV w (fun b=>B b∧b < w.heap.size) v l:=by
 obtain ⟨a,cap,h1,h2,h3⟩:=h
 refine ⟨a,cap,h1,h2,?_⟩
 by_cases hx:l=[]
 ·exact .inl hx
 ·rcases h3 with h3 | ⟨g,h4,h5,h6⟩
  ·exact .inl h3
  ·exact .inr ⟨g,h4,⟨h5,SsAt.here hx h6⟩,SsAt.lt g 0 l h6⟩
theorem NmV.lt {w:World} {B:Nat→Prop} {v:Value} {l:List Sec} (h:NmV w B v l):NmV w (fun b=>B b∧b < w.heap.size) v l:=by
 obtain ⟨a,cap,h1,h2,h3⟩:=h
 refine ⟨a,cap,h1,h2,?_⟩
 cases l with
 | nil=>exact .inl rfl
 | cons x l=>
  rcases h3 with h3 | ⟨g,h4,h5,h6⟩
  ·cases h3
  ·exact .inr ⟨g,h4,⟨h5,World.block_lt_of_cell? _ _ (h6 0 x rfl)⟩,h6⟩
theorem DV.lt {w:World} {B:Nat→Prop} {d:Df} {cs:List Value} (h:DV w B d cs):DV w (fun b=>B b∧b < w.heap.size) d cs:=by
 obtain ⟨v1,v2,v3,v4,h0,h1,h2,h3,h4⟩:=h
 exact ⟨v1,v2,v3,v4,h0,h1.lt,h2.lt,h3.lt,h4.lt⟩
structure Whole (d:Df):Prop where
 needs:wL d.needs
 body:wB d.body
 give:wL d.give
 one:d.give.length≤1
 size:sizeL d.needs+sizeSs d.body+sizeL d.give≤480
 params:∀ nm∈d.params,nm.length≤65536
 plen:d.params.length≤480
set_option maxRecDepth 100000 in
set_option maxHeartbeats 4000000 in
theorem cwhole_any {w:World} {B:Nat→Prop} {d:Df} {cs:List Value} (hd:DV w B d cs) (hw:Whole d):Calls Try.prog 45 #[.agg cs.toArray] w fun en w'=>en=.returned (.bool true)∧Only [] w w':=by
 obtain ⟨v1,v2,v3,v4,rfl,hv1,hv2,hv3,hv4⟩:=hd.lt
 obtain ⟨a1,c1,rfl,-⟩:=hv1
 have HV2:=Lib.hid hv2
 have HV3:=Lib.hid hv3
 have HV4:=Lib.hid hv4
 obtain ⟨a2,c2,rfl,-⟩:=hv2
 obtain ⟨a3,c3,rfl,-⟩:=hv3
 obtain ⟨a4,c4,rfl,-⟩:=hv4
 obtain ⟨sn,hsn⟩:∃ sn,sn=strOf d.name:=⟨_,rfl⟩
 obtain ⟨L1,hL1⟩:∃ L,L=d.params.length:=⟨_,rfl⟩
 obtain ⟨L2,hL2⟩:∃ L,L=d.needs.length:=⟨_,rfl⟩
 obtain ⟨L3,hL3⟩:∃ L,L=d.body.length:=⟨_,rfl⟩
 obtain ⟨L4,hL4⟩:∃ L,L=d.give.length:=⟨_,rfl⟩
 have hone:=hw.one
 rw [← hL2] at HV2
 rw [← hL3] at HV3
 rw [← hL4] at HV4 hone
 rw [← hsn,← hL1,← hL2,← hL3,← hL4]
 have H:=Lib.hid hw
 clear hsn hL1 hL2 hL3 hL4 hw
 go_enter Try.func45,Try.ntmps45
 go_upto_region 2 with (fail)
 obtain ⟨w2,hw2⟩:∃ w2,w2=(w.alloc (.cells #[.string sn,.slice a1 L1 c1,.slice a2 L2 c2,.slice a3 L3 c3,.slice a4 L4 c4] 30)).alloc (.cells #[.int .i64 480] 131):=⟨_,rfl⟩
 have s1:(w.alloc (.cells #[.string sn,.slice a1 L1 c1,.slice a2 L2 c2,.slice a3 L3 c3,.slice a4 L4 c4] 30)).heap.size=w.heap.size+1:=Array.size_push _
 have hA:w2.heap[w.heap.size]?=some (.cells #[.string sn,.slice a1 L1 c1,.slice a2 L2 c2,.slice a3 L3 c3,.slice a4 L4 c4] 30 (0,0)):=by rw [hw2];exact heap_old _ (heap_new w _)
 have hLf:Left w2 (w.heap.size+1) 480:=by
  have:=heap_new (w.alloc (.cells #[.string sn,.slice a1 L1 c1,.slice a2 L2 c2,.slice a3 L3 c3,.slice a4 L4 c4] 30)) (.cells #[.int .i64 480] 131)
  rw [s1] at this
  rw [hw2]
  exact this
 have o2:Only [] w w2:=by rw [hw2];exact ((Only.refl [] w).alloc _).alloc _
 rw [← hw2]
 have HA:=Lib.hid hA
 replace HV2:=Lib.hid (HV2.out.quiet o2)
 replace HV3:=Lib.hid (HV3.out.quiet o2)
 replace HV4:=Lib.hid (HV4.out.quiet o2)
 have hB:¬ (B (w.heap.size+1)∧w.heap.size+1 < w.heap.size):=fun e=>by omega
 have hg:w.heap.size+1≠w.heap.size:=by omega
 have HO2:=Lib.hid o2
 have hsz:=H.out.size
 have K2:=cwl_all _ d.needs (Nat.le_refl _) w2 (w.heap.size+1) 480 _ (fun b=>B b∧b < w.heap.size) hLf (by omega) (Nat.le_refl _) H.out.needs HV2.out hB
 have y2:w2.cell? ⟨w.heap.size,2,none⟩=some (.slice a2 L2 c2):=cell_at 2 HA.out
 obtain ⟨X2,hX2⟩:∃ X,X=sizeL d.needs:=⟨_,rfl⟩
 obtain ⟨X3,hX3⟩:∃ X,X=sizeSs d.body:=⟨_,rfl⟩
 obtain ⟨X4,hX4⟩:∃ X,X=sizeL d.give:=⟨_,rfl⟩
 rw [← hX2,← hX3,← hX4] at hsz
 rw [← hX2] at K2
 have HSZ:=Lib.hid hsz
 have HX3:=Lib.hid hX3
 have HX4:=Lib.hid hX4
 clear hA hLf o2 hw2 s1 hsz hX2 hX3 hX4
 go_wp2_with fail
 refine K2.mono ?_
 rintro en w3 ⟨rfl,hl3,ho3⟩
 have HA3:=Lib.hid (ho3.heap HA.out (by simp))
 replace HV3:=Lib.hid (HV3.out.kept ho3 (by simp) (fun _ h=>h))
 replace HV4:=Lib.hid (HV4.out.kept ho3 (by simp) (fun _ h=>h))
 have HO3:=Lib.hid (HO2.out.trans (T:=[w.heap.size+1]) ho3 (fun k hk=>.inr (by rw [List.mem_singleton.1 hk];omega)))
 have K3:=cws_all _ d.body (Nat.le_refl _) w3 (w.heap.size+1) _ _ (fun b=>B b∧b < w.heap.size) hl3 (by have:=HSZ.out;have:=HX3.out;omega) (by omega) H.out.body HV3.out hB
 have y3:w3.cell? ⟨w.heap.size,3,none⟩=some (.slice a3 L3 c3):=cell_at 3 HA3.out
 rw [← HX3.out] at K3
 clear hl3 ho3 K2 y2
 go_wp2_with fail
 refine K3.mono ?_
 rintro en w4 ⟨rfl,hl4,ho4⟩
 have HA4:=Lib.hid (ho4.heap HA3.out (by simp))
 replace HV4:=Lib.hid (HV4.out.kept ho4 (by simp) (fun _ h=>h))
 have HO4:=Lib.hid (HO3.out.trans (T:=[w.heap.size+1]) ho4 (fun k hk=>.inr (by rw [List.mem_singleton.1 hk];omega)))
 have K4:=cwl_all _ d.give (Nat.le_refl _) w4 (w.heap.size+1) _ _ (fun b=>B b∧b < w.heap.size) hl4 (by have:=HSZ.out;have:=HX4.out;omega) (by omega) H.out.give HV4.out hB
 have y4:w4.cell? ⟨w.heap.size,4,none⟩=some (.slice a4 L4 c4):=cell_at 4 HA4.out
 clear hl4 ho4 K3 y3
 go_wp2_with fail
 refine K4.mono ?_
 rintro en w5 ⟨rfl,hl5,ho5⟩
 have HA5:=Lib.hid (ho5.heap HA4.out (by simp))
 have HO5:=Lib.hid (HO4.out.trans (T:=[w.heap.size+1]) ho5 (fun k hk=>.inr (by rw [List.mem_singleton.1 hk];omega)))
 have y4:w5.cell? ⟨w.heap.size,4,none⟩=some (.slice a4 L4 c4):=cell_at 4 HA5.out
 have h1:(L4:Int)≤1:=by omega
 clear hl5 ho5 K4
 go_wp2_with fail
 go_ret
 exact ⟨by simp [h1],HO5.out⟩
end Go.Proofs.Ytiaeagpepfmfgaa
