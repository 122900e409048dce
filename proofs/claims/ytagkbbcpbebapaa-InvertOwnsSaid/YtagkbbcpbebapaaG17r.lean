import Derived.Test.YtagkbbcpbebapaaG16r
namespace Go.Proofs.Ytagkbbcpbebapaa
open Go.RowKit Go.Maps
set_option linter.unusedSimpArgs false
set_option linter.unusedVariables false
section
variable {w w':World} {v:Value} {ts:List Tok}
set_option maxRecDepth 100000 in
set_option maxHeartbeats 8000000 in
theorem rfor_any (h:TS w v ts) {i f:Nat} (hi:i < ts.length) (dp:Nat) (hdp:dp≤12) (hf:2*(ts.length - i)≤f) (IB:BlockC ts f) (d1:isT ts i [91]=false) (d2:isT ts i [108,101,116]=false) (d3:isT ts i [105,102]=false) (d4:isT ts i [102,111,114]=true) :
  Calls Try.prog 69 #[v,.int .i64 (i:Int),.int .i64 (dp:Int)] w (RSt w (stmtR ts (f+1) i dp)):=by
 obtain ⟨R,hR⟩:∃ R,R=stmtR ts (f+1) i dp:=⟨_,rfl⟩
 rw [← hR]
 rw [stmtR_for d1 d2 d3 d4] at hR
 have hi1:i+1 < ts.length:=isT_lt h.ends hi d4
 obtain ⟨rw_,hrw⟩:∃ rw_,rw_=wordT ts (i+1):=⟨_,rfl⟩
 have haw:Adv ts (i+1) rw_:=by rw [hrw];exact wordT_adv h.ends hi1
 obtain ⟨q1,hq1⟩:∃ q,q=eatP ts (nextP rw_) [105,110]:=⟨_,rfl⟩
 have ha1:AdvP ts (i+1) q1:=by rw [hq1];exact haw.next.eat h.ends _
 obtain ⟨q2,hq2⟩:∃ q,q=eatP ts q1 [48]:=⟨_,rfl⟩
 have ha2:AdvP ts (i+1) q2:=by rw [hq2];exact ha1.eat h.ends _
 obtain ⟨q3,hq3⟩:∃ q,q=eatP ts q2 [46,46]:=⟨_,rfl⟩
 have ha3:AdvP ts (i+1) q3:=by rw [hq3];exact ha2.eat h.ends _
 have hq:forP ts i=q3:=by rw [hq3,hq2,hq1,hrw];rfl
 rw [hq,← hrw] at hR
 obtain ⟨rn,hrn⟩:∃ rn,rn=numP ts q3:=⟨_,rfl⟩
 have han:Adv ts (i+1) rn:=by rw [hrn];exact ha3.num h.ends
 rw [← hrn] at hR
 obtain ⟨rb,hrb⟩:∃ rb,rb=blockP ts f (nextP rn) dp:=⟨_,rfl⟩
 rw [← hrb] at hR
 obtain ⟨b,cap,rfl,c0,c1,c2⟩:=h.at_ hi
 have hlen:=h.len
 have H:=Hd h
 have i0:(0:Int)≤(i:Int):=by omega
 have i1:(i:Int) < (ts.length:Int):=by omega
 obtain ⟨ps,hps⟩:∃ ps,ps=pAt ts i:=⟨_,rfl⟩
 rw [← hps] at c2
 have hbl:b < w.heap.size:=World.block_lt_of_cell? _ _ c0
 have hbn:b≠w.heap.size:=by omega
 have HPS:=Hd hps
 have KI:∀ (W:World),Only [] w W→∀ x:ByteArray,Calls Try.prog 67 #[.slice (some ⟨b,0,none⟩) ts.length cap,.int .i64 (i:Int),.string x] W fun e w'=>e=.returned (.bool (isT ts i x.data.toList))∧W=w':=fun W ho x=>ris_any (h.quiet ho) (.ok i) hi x
 have HKI:=Hd KI
 clear h hps c0 c1 KI
 rw [← HPS.out] at hR
 have KW:∀ (W:World),Only [] w W→Calls Try.prog 65 #[.slice (some ⟨b,0,none⟩) ts.length cap,.int .i64 ((i:Int)+1)] W fun e w'=>e=.returned (.tuple #[.string (strOf (valS rw_)),.int .i64 (zR rw_)])∧W=w':=fun W ho=>by
  have:=rword_any (H.out.quiet ho) (.ok (i+1)) hi1
  rw [show wordP ts (.ok (i+1))=rw_ from hrw.symm,show zP (.ok (i+1))=(i:Int)+1 from by show ((i+1:Nat):Int)=_;omega] at this
  exact this
 have K1:∀ (W:World),Only [] w W→Calls Try.prog 66 #[.slice (some ⟨b,0,none⟩) ts.length cap,.int .i64 (zR rw_),.string ⟨#[105,110]⟩] W fun e w'=>e=.returned (.int .i64 (zP q1))∧W=w':=fun W ho=>by
  have:=reat_any (H.out.quiet ho) (nextP rw_) haw.next.ok ⟨#[105,110]⟩
  rw [← zR_next,show eatP ts (nextP rw_) (⟨#[105,110]⟩:ByteArray).data.toList=q1 from hq1.symm] at this
  exact this
 have K2:∀ (W:World),Only [] w W→Calls Try.prog 66 #[.slice (some ⟨b,0,none⟩) ts.length cap,.int .i64 (zP q1),.string ⟨#[48]⟩] W fun e w'=>e=.returned (.int .i64 (zP q2))∧W=w':=fun W ho=>by
  have:=reat_any (H.out.quiet ho) q1 ha1.ok ⟨#[48]⟩
  rw [show eatP ts q1 (⟨#[48]⟩:ByteArray).data.toList=q2 from hq2.symm] at this
  exact this
 have K3:∀ (W:World),Only [] w W→Calls Try.prog 66 #[.slice (some ⟨b,0,none⟩) ts.length cap,.int .i64 (zP q2),.string ⟨#[46,46]⟩] W fun e w'=>e=.returned (.int .i64 (zP q3))∧W=w':=fun W ho=>by
  have:=reat_any (H.out.quiet ho) q2 ha2.ok ⟨#[46,46]⟩
  rw [show eatP ts q2 (⟨#[46,46]⟩:ByteArray).data.toList=q3 from hq3.symm] at this
  exact this
 have KN:∀ (W:World),Only [] w W→Calls Try.prog 90 #[.slice (some ⟨b,0,none⟩) ts.length cap,.int .i64 (zP q3)] W fun e w'=>e=.returned (.tuple #[.int .i64 (valI rn),.int .i64 (zR rn)])∧W=w':=fun W ho=>by
  have:=rnum_any (H.out.quiet ho) q3 ha3.ok
  rw [← hrn] at this
  exact this
 have KB:∀ (W:World),Only [] w W→Calls Try.prog 89 #[.slice (some ⟨b,0,none⟩) ts.length cap,.int .i64 (zR rn),.int .i64 (dp:Int)] W (RBl W rb):=fun W ho=>by
  have:=IB W _ (nextP rn) dp (H.out.quiet ho) han.next.ok (fun j hj=>by
   have h9:=han.next
   rw [hj] at h9
   have:=h9.1
   omega) hdp
  rw [← zR_next,← hrb] at this
  exact this
 obtain ⟨sn,hsn⟩:∃ sn,sn=strOf (valS rw_):=⟨_,rfl⟩
 rw [← hsn] at KW
 obtain ⟨nn,hnn⟩:∃ nn,nn=valI rn:=⟨_,rfl⟩
 rw [← hnn] at KN
 obtain ⟨bx,hbx⟩:∃ bx,bx=zR rb:=⟨_,rfl⟩
 have HBX:=Hd hbx
 have HSN:=Hd hsn
 rw [← hnn] at hR
 have HKW:=Hd KW
 have HK1:=Hd K1
 have HK2:=Hd K2
 have HK3:=Hd K3
 have HKN:=Hd KN
 have HKB:=Hd KB
 have HR:=Hd hR
 clear KW K1 K2 K3 KN KB hR hsn hnn hbx hrw hq1 hq2 hq3 hq hrn hrb haw ha1 ha2 ha3 han
 generalize zR rw_=z0 at HKW HK1
 generalize zP q1=z1 at HK1 HK2
 generalize zP q2=z2 at HK2 HK3
 generalize zP q3=z3 at HK3 HKN
 generalize zR rn=z4 at HKN HKB
 go_enter Try.func69,Try.ntmps69
 go_wp2_with fail
 refine calls_two (fun w3 hA3 hB3 o3=>?_)
 have HA:=Hd hA3
 have HB:=Hd hB3
 have HO:=Hd o3
 have hsz3:w.heap.size+1 < w3.heap.size:=(Array.getElem?_eq_some_iff.1 hB3).1
 clear hA3 hB3 o3
 refine (HKI.out _ HO.out _).mono ?_
 rintro e w' ⟨rfl,rfl⟩
 rw [show isT ts i (⟨#[91]⟩:ByteArray).data.toList=false from d1]
 go_wp2_with fail
 refine (HKI.out _ HO.out _).mono ?_
 rintro e w' ⟨rfl,rfl⟩
 rw [show isT ts i (⟨#[108,101,116]⟩:ByteArray).data.toList=false from d2]
 go_wp2_with fail
 refine (HKI.out _ HO.out _).mono ?_
 rintro e w' ⟨rfl,rfl⟩
 rw [show isT ts i (⟨#[105,102]⟩:ByteArray).data.toList=false from d3]
 go_wp2_with fail
 refine (HKI.out _ HO.out _).mono ?_
 rintro e w' ⟨rfl,rfl⟩
 rw [show isT ts i (⟨#[102,111,114]⟩:ByteArray).data.toList=true from d4]
 clear d1 d2 d3 d4
 have b0:w3.cell? ⟨w.heap.size+1,0,none⟩=some (.int .i64 0):=cell_at 0 HB.out
 have gb:=free_at 0 HB.out
 go_wp2_with fail
 clear b0 gb
 have og:Only [w.heap.size+1] w3 (w3.setCell ⟨w.heap.size+1,0,none⟩ (.int .i64 7)):=(Only.refl _ _).setCell (.inl (by simp)) _
 have hBg:=heap_cell (i:=0) (.int .i64 7) HB.out
 have hAg:=og.heap HA.out (by simp)
 generalize w3.setCell ⟨w.heap.size+1,0,none⟩ (.int .i64 7)=w4 at og hBg hAg⊢
 replace HO:=Hd (HO.out.trans (T:=[w.heap.size+1]) og (fun k hk=>.inr (by rw [List.mem_singleton.1 hk];omega)))
 replace HA:=Hd hAg
 replace HB:=Hd hBg
 have HOG0:=Hd og
 clear og hAg hBg
 refine (HKW.out _ HO.out).mono ?_
 rintro e w' ⟨rfl,rfl⟩
 go_wp2_with fail
 refine (HK1.out _ HO.out).mono ?_
 rintro e w' ⟨rfl,rfl⟩
 go_wp2_with fail
 refine (HK2.out _ HO.out).mono ?_
 rintro e w' ⟨rfl,rfl⟩
 go_wp2_with fail
 refine (HK3.out _ HO.out).mono ?_
 rintro e w' ⟨rfl,rfl⟩
 go_wp2_with fail
 refine (HKN.out _ HO.out).mono ?_
 rintro e w' ⟨rfl,rfl⟩
 have b1:w4.cell? ⟨w.heap.size+1,1,none⟩=some (.string ⟨#[]⟩):=cell_at 1 HB.out
 have gb1:=free_at 1 HB.out
 go_upto_region 25 with (fail)
 clear b1 gb1
 have og:Only [w.heap.size+1] w4 (w4.setCell ⟨w.heap.size+1,1,none⟩ (.string sn)):=(Only.refl _ _).setCell (.inl (by simp)) _
 have hBg:=heap_cell (i:=1) (.string sn) HB.out
 have hAg:=og.heap HA.out (by simp)
 generalize w4.setCell ⟨w.heap.size+1,1,none⟩ (.string sn)=w5 at og hBg hAg⊢
 replace HO:=Hd (HO.out.trans (T:=[w.heap.size+1]) og (fun k hk=>.inr (by rw [List.mem_singleton.1 hk];omega)))
 replace HA:=Hd hAg
 replace HB:=Hd hBg
 have HOG1:=Hd og
 clear og hAg hBg
 have b3:w5.cell? ⟨w.heap.size+1,3,none⟩=some (.int .i64 0):=cell_at 3 HB.out
 have gb3:=free_at 3 HB.out
 go_upto_region 26 with (fail)
 clear b3 gb3
 have og:Only [w.heap.size+1] w5 (w5.setCell ⟨w.heap.size+1,3,none⟩ (.int .i64 nn)):=(Only.refl _ _).setCell (.inl (by simp)) _
 have hBg:=heap_cell (i:=3) (.int .i64 nn) HB.out
 have hAg:=og.heap HA.out (by simp)
 generalize w5.setCell ⟨w.heap.size+1,3,none⟩ (.int .i64 nn)=w6 at og hBg hAg⊢
 replace HO:=Hd (HO.out.trans (T:=[w.heap.size+1]) og (fun k hk=>.inr (by rw [List.mem_singleton.1 hk];omega)))
 replace HA:=Hd hAg
 replace HB:=Hd hBg
 have HOG3:=Hd og
 clear og hAg hBg
 have hz6:w3.heap.size≤w6.heap.size:=Nat.le_trans HOG0.out.size (Nat.le_trans HOG1.out.size HOG3.out.size)
 go_wp2_with fail
 refine (HKB.out _ HO.out).mono ?_
 rintro e wf ⟨a3,l3,c3,rfl,hvb,of_⟩
 replace HO:=Hd (HO.out.trans of_ (by simp))
 replace HA:=Hd (of_.heap HA.out (by simp))
 replace HB:=Hd (of_.heap HB.out (by simp))
 have HVB:=Hd (show ∀ t j,rb=.ok (t,j)→SsV wf (fun b=>w.heap.size+1 < b) (.slice a3 l3 c3) t from fun t j hj=>(hvb t j hj).kept (Only.refl [] wf) (by simp) (fun b hb=>by have:w6.heap.size≤b:=hb;omega))
 have hzf:w6.heap.size≤wf.heap.size:=of_.size
 have b4:wf.cell? ⟨w.heap.size+1,4,none⟩=some (.slice none 0 0):=cell_at 4 HB.out
 have gb4:=free_at 4 HB.out
 rw [← HBX.out]
 clear hvb of_
 go_upto_region 27 with (fail)
 clear b4 gb4
 have og:Only [w.heap.size+1] wf (wf.setCell ⟨w.heap.size+1,4,none⟩ (.slice a3 l3 c3)):=(Only.refl _ _).setCell (.inl (by simp)) _
 have hBg:=heap_cell (i:=4) (.slice a3 l3 c3) HB.out
 have hAg:=og.heap HA.out (by simp)
 generalize wf.setCell ⟨w.heap.size+1,4,none⟩ (.slice a3 l3 c3)=wg at og hBg hAg⊢
 replace HO:=Hd (HO.out.trans (T:=[w.heap.size+1]) og (fun k hk=>.inr (by rw [List.mem_singleton.1 hk];omega)))
 replace HA:=Hd hAg
 replace HB:=Hd hBg
 have HOG4:=Hd og
 clear og hAg hBg
 replace HVB:=Hd (fun t j hj=>(HVB.out t j hj).kept HOG4.out (fun k hk hB=>by rw [List.mem_singleton.1 hk] at hB;exact absurd hB (by omega)) (fun _ h=>h))
 have s0:wg.cell? ⟨w.heap.size,0,none⟩=some (.int .i64 0):=cell_at 0 HA.out
 have s1:wg.cell? ⟨w.heap.size,1,none⟩=some (.string ⟨#[]⟩):=cell_at 1 HA.out
 have s2:wg.cell? ⟨w.heap.size,2,none⟩=some (.slice none 0 0):=cell_at 2 HA.out
 have s3:wg.cell? ⟨w.heap.size,3,none⟩=some (.int .i64 0):=cell_at 3 HA.out
 have s4:wg.cell? ⟨w.heap.size,4,none⟩=some (.slice none 0 0):=cell_at 4 HA.out
 have s5:wg.cell? ⟨w.heap.size,5,none⟩=some (.slice none 0 0):=cell_at 5 HA.out
 have s6:wg.cell? ⟨w.heap.size,6,none⟩=some (.int .i64 0):=cell_at 6 HA.out
 have gs0:=free_at 0 HA.out
 have gs1:=free_at 1 HA.out
 have gs2:=free_at 2 HA.out
 have gs3:=free_at 3 HA.out
 have gs4:=free_at 4 HA.out
 have gs5:=free_at 5 HA.out
 have gs6:=free_at 6 HA.out
 have b0:wg.cell? ⟨w.heap.size+1,0,none⟩=some (.int .i64 7):=cell_at 0 HB.out
 have b1:wg.cell? ⟨w.heap.size+1,1,none⟩=some (.string sn):=cell_at 1 HB.out
 have b2:wg.cell? ⟨w.heap.size+1,2,none⟩=some (.slice none 0 0):=cell_at 2 HB.out
 have b3:wg.cell? ⟨w.heap.size+1,3,none⟩=some (.int .i64 nn):=cell_at 3 HB.out
 have b4:wg.cell? ⟨w.heap.size+1,4,none⟩=some (.slice a3 l3 c3):=cell_at 4 HB.out
 have b5:wg.cell? ⟨w.heap.size+1,5,none⟩=some (.slice none 0 0):=cell_at 5 HB.out
 have b6:wg.cell? ⟨w.heap.size+1,6,none⟩=some (.int .i64 (ps:Int)):=cell_at 6 HB.out
 go_wp2_with fail
 have oz:Only [w.heap.size] wg (((((((wg.setCell ⟨w.heap.size,0,none⟩ (.int .i64 7)).setCell ⟨w.heap.size,1,none⟩ (.string sn)).setCell ⟨w.heap.size,2,none⟩ (.slice none 0 0)).setCell ⟨w.heap.size,3,none⟩ (.int .i64 nn)).setCell ⟨w.heap.size,4,none⟩ (.slice a3 l3 c3)).setCell ⟨w.heap.size,5,none⟩ (.slice none 0 0)).setCell ⟨w.heap.size,6,none⟩ (.int .i64 (ps:Int))):=
  (((((((Only.refl _ _).setCell (.inl (by simp)) _).setCell (.inl (by simp)) _).setCell (.inl (by simp)) _).setCell (.inl (by simp)) _).setCell (.inl (by simp)) _).setCell (.inl (by simp)) _).setCell (.inl (by simp)) _
 have hz:=seven_set HA.out (.int .i64 7) (.string sn) (.slice none 0 0) (.int .i64 nn) (.slice a3 l3 c3) (.slice none 0 0) (.int .i64 (ps:Int))
 generalize ((((((wg.setCell ⟨w.heap.size,0,none⟩ (.int .i64 7)).setCell ⟨w.heap.size,1,none⟩ (.string sn)).setCell ⟨w.heap.size,2,none⟩ (.slice none 0 0)).setCell ⟨w.heap.size,3,none⟩ (.int .i64 nn)).setCell ⟨w.heap.size,4,none⟩ (.slice a3 l3 c3)).setCell ⟨w.heap.size,5,none⟩ (.slice none 0 0)).setCell ⟨w.heap.size,6,none⟩ (.int .i64 (ps:Int))=wz at oz hz⊢
 (try simp only [Exit.inBlock,Exit.then])
 refine bodyPost_ret (res_stmt _ _ w.heap.size _ _ _ _ _ _ _ (.int .i64 bx) rfl rfl hz) rfl ?_
 refine ⟨7,nn,ps,sn,none,a3,none,0,l3,0,0,c3,0,by rw [HR.out,mapR_z,HBX.out],fun s j hs=>?_,?_⟩
 ·rw [HR.out] at hs
  obtain ⟨t,ht,rfl⟩:=mapR_ok hs
  have e5:=SV.mk' (w:=wg) (B:=fun b=>w.heap.size+1 < b) (k:=7) (n:=nn) (p:=ps) (nm:=valS rw_) (EsV.nil _ _) (HVB.out t j ht) (SsV.nil _ _)
  rw [← HSN.out] at e5
  refine SV.kept (S:=[w.heap.size]) oz (fun k hk hB=>?_) (fun b hb=>?_) _ _ e5
  ·rw [List.mem_singleton.1 hk] at hB
   exact absurd hB (by omega)
  ·show w.heap.size≤b
   have:w.heap.size+1 < b:=hb
   omega
 ·exact HO.out.trans (T:=[w.heap.size]) oz (fun k hk=>.inr (by rw [List.mem_singleton.1 hk];exact Nat.le_refl _))
set_option maxRecDepth 100000 in
set_option maxHeartbeats 8000000 in
theorem rscell_any (h:TS w v ts) {i:Nat} (hi:i < ts.length) (dp:Nat) (hdp:dp≤13) (d1:isT ts i [91]=true) :
  Calls Try.prog 69 #[v,.int .i64 (i:Int),.int .i64 (dp:Int)] w (RSt w (cellR ts i dp)):=by
 obtain ⟨b,cap,rfl,c0,c1,c2⟩:=h.at_ hi
 have hlen:=h.len
 have H:=Hd h
 have i0:(0:Int)≤(i:Int):=by omega
 have i1:(i:Int) < (ts.length:Int):=by omega
 obtain ⟨ps,hps⟩:∃ ps,ps=pAt ts i:=⟨_,rfl⟩
 rw [← hps] at c2
 have hbl:b < w.heap.size:=World.block_lt_of_cell? _ _ c0
 have hbn:b≠w.heap.size:=by omega
 have HPS:=Hd hps
 have KI:∀ (W:World),Only [] w W→∀ x:ByteArray,Calls Try.prog 67 #[.slice (some ⟨b,0,none⟩) ts.length cap,.int .i64 (i:Int),.string x] W fun e w'=>e=.returned (.bool (isT ts i x.data.toList))∧W=w':=fun W ho x=>ris_any (h.quiet ho) (.ok i) hi x
 have HKI:=Hd KI
 clear h hps c0 c1 KI
 have KC:∀ (W:World),Only [] w W→Calls Try.prog 88 #[.slice (some ⟨b,0,none⟩) ts.length cap,.int .i64 (i:Int),.int .i64 (dp:Int)] W (RSt W (cellR ts i dp)):=fun W ho=>rcell_any (H.out.quiet ho) hi dp hdp
 have HKC:=Hd KC
 clear KC
 go_enter Try.func69,Try.ntmps69
 go_wp2_with fail
 refine calls_two (fun w3 hA3 hB3 o3=>?_)
 have HA:=Hd hA3
 have HB:=Hd hB3
 have HO:=Hd o3
 have hsz3:w.heap.size+1 < w3.heap.size:=(Array.getElem?_eq_some_iff.1 hB3).1
 clear hA3 hB3 o3
 refine (HKI.out _ HO.out _).mono ?_
 rintro e w' ⟨rfl,rfl⟩
 rw [show isT ts i (⟨#[91]⟩:ByteArray).data.toList=true from d1]
 clear d1
 go_wp2_with fail
 refine (HKC.out _ HO.out).mono ?_
 rintro e w4 ⟨k,n,p,s,a1,a2,a3,l1,l2,l3,c1,c2',c3,rfl,hv,o4⟩
 replace HO:=Hd (HO.out.trans o4 (by simp))
 replace HA:=Hd (o4.heap HA.out (by simp))
 have HV:=Hd hv
 clear hv o4
 have s0:w4.cell? ⟨w.heap.size,0,none⟩=some (.int .i64 0):=cell_at 0 HA.out
 have s1:w4.cell? ⟨w.heap.size,1,none⟩=some (.string ⟨#[]⟩):=cell_at 1 HA.out
 have s2:w4.cell? ⟨w.heap.size,2,none⟩=some (.slice none 0 0):=cell_at 2 HA.out
 have s3:w4.cell? ⟨w.heap.size,3,none⟩=some (.int .i64 0):=cell_at 3 HA.out
 have s4:w4.cell? ⟨w.heap.size,4,none⟩=some (.slice none 0 0):=cell_at 4 HA.out
 have s5:w4.cell? ⟨w.heap.size,5,none⟩=some (.slice none 0 0):=cell_at 5 HA.out
 have s6:w4.cell? ⟨w.heap.size,6,none⟩=some (.int .i64 0):=cell_at 6 HA.out
 have gs0:=free_at 0 HA.out
 have gs1:=free_at 1 HA.out
 have gs2:=free_at 2 HA.out
 have gs3:=free_at 3 HA.out
 have gs4:=free_at 4 HA.out
 have gs5:=free_at 5 HA.out
 have gs6:=free_at 6 HA.out
 go_wp2_with fail
 have oz:Only [w.heap.size] w4 (((((((w4.setCell ⟨w.heap.size,0,none⟩ (.int .i64 k)).setCell ⟨w.heap.size,1,none⟩ (.string s)).setCell ⟨w.heap.size,2,none⟩ (.slice a1 l1 c1)).setCell ⟨w.heap.size,3,none⟩ (.int .i64 n)).setCell ⟨w.heap.size,4,none⟩ (.slice a2 l2 c2')).setCell ⟨w.heap.size,5,none⟩ (.slice a3 l3 c3)).setCell ⟨w.heap.size,6,none⟩ (.int .i64 p)):=
  (((((((Only.refl _ _).setCell (.inl (by simp)) _).setCell (.inl (by simp)) _).setCell (.inl (by simp)) _).setCell (.inl (by simp)) _).setCell (.inl (by simp)) _).setCell (.inl (by simp)) _).setCell (.inl (by simp)) _
 have hz:=seven_set HA.out (.int .i64 k) (.string s) (.slice a1 l1 c1) (.int .i64 n) (.slice a2 l2 c2') (.slice a3 l3 c3) (.int .i64 p)
 generalize ((((((w4.setCell ⟨w.heap.size,0,none⟩ (.int .i64 k)).setCell ⟨w.heap.size,1,none⟩ (.string s)).setCell ⟨w.heap.size,2,none⟩ (.slice a1 l1 c1)).setCell ⟨w.heap.size,3,none⟩ (.int .i64 n)).setCell ⟨w.heap.size,4,none⟩ (.slice a2 l2 c2')).setCell ⟨w.heap.size,5,none⟩ (.slice a3 l3 c3)).setCell ⟨w.heap.size,6,none⟩ (.int .i64 p)=wz at oz hz⊢
 (try simp only [Exit.inBlock,Exit.then])
 refine bodyPost_ret (res_stmt _ _ w.heap.size _ _ _ _ _ _ _ (.int .i64 (zR (cellR ts i dp))) rfl rfl hz) rfl ?_
 refine ⟨k,n,p,s,a1,a2,a3,l1,l2,l3,c1,c2',c3,rfl,fun t j ht=>?_,?_⟩
 ·refine SV.kept (S:=[w.heap.size]) oz (fun k hk hB=>?_) (fun b hb=>?_) _ _ (HV.out t j ht)
  ·rw [List.mem_singleton.1 hk] at hB
   exact absurd (show w3.heap.size≤w.heap.size from hB) (by omega)
  ·show w.heap.size≤b
   have:w3.heap.size≤b:=hb
   omega
 ·exact HO.out.trans (T:=[w.heap.size]) oz (fun k hk=>.inr (by rw [List.mem_singleton.1 hk];exact Nat.le_refl _))
theorem rstmt_step (f:Nat) (IB:BlockC ts f):StmtC ts (f+1):=by
 intro w v i dp h hi hf hdp
 cases d1:isT ts i [91] with
 | true=>rw [stmtR_cell d1];exact rscell_any h hi dp (by omega) d1
 | false=>
  cases d2:isT ts i [108,101,116] with
  | true=>rw [stmtR_let d1 d2];exact rlet_any h hi dp (by omega) d1 d2
  | false=>
   cases d3:isT ts i [105,102] with
   | true=>exact rif_any h hi dp hdp (by omega) IB d1 d2 d3
   | false=>
    cases d4:isT ts i [102,111,114] with
    | true=>exact rfor_any h hi dp hdp (by omega) IB d1 d2 d3 d4
    | false=>rw [stmtR_none d1 d2 d3 d4];exact rnone_any h hi dp (by omega) d1 d2 d3 d4
end
end Go.Proofs.Ytagkbbcpbebapaa
