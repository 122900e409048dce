import Derived.Test.YtheanmadognhbaaGreatDoorGcs
import Derived.Deep.Cut
namespace Go.Proofs.YtheanmadognhbaaGreatDoor
open Go.RowKit Go.Maps
set_option linter.unusedSimpArgs false
set_option linter.unusedVariables false
theorem calls_two {P:Program} {f:FuncId} {args:Array Value} {w:World} {A B:Obj} {Q:Ending→World→Prop} (h:∀ w3,w3.heap[w.heap.size]?=some A→w3.heap[w.heap.size+1]?=some B→Only [] w w3→Calls P f args w3 Q) :
  Calls P f args ((w.alloc A).alloc B) Q:=by
 have s1:(w.alloc A).heap.size=w.heap.size+1:=Array.size_push _
 refine h _ ?_ ?_ (((Only.refl [] w).alloc _).alloc _)
 ·exact heap_old _ (heap_new w A)
 ·rw [← s1];exact heap_new _ B
def closeS (ts:List Tok) (r:Except Nat (E×Nat)) (c:Sec) (mk:E→St):Except Nat (St×Nat):=match r with
 | .error k=>.error k
 | .ok (e,a)=>match eatT ts a c with
  | .error k=>.error k
  | .ok b=>.ok (mk e,b)
theorem closeS_z (ts:List Tok) (r:Except Nat (E×Nat)) (c:Sec) (mk:E→St):zR (closeS ts r c mk)=zP (eatP ts (nextP r) c):=by
 cases r with
 | error k=>rfl
 | ok y=>
  obtain ⟨t,a⟩:=y
  show zR (match eatT ts a c with | .error k=>.error k | .ok b=>.ok (mk t,b))=zP (eatT ts a c)
  cases eatT ts a c<;>rfl
theorem closeS_ok {ts:List Tok} {r:Except Nat (E×Nat)} {c:Sec} {mk:E→St} {s:St} {j:Nat} (h:closeS ts r c mk=.ok (s,j)):∃ e a,r=.ok (e,a)∧s=mk e:=by
 cases r with
 | error k=>cases h
 | ok y=>
  obtain ⟨t',a⟩:=y
  unfold closeS at h
  cases hc:eatT ts a c<;>simp [hc] at h
  exact ⟨t',a,rfl,h.1.symm⟩
section
variable {w w':World} {v:Value} {ts:List Tok}
theorem cellR_of {i dp:Nat} {t:E} {a:Nat} (h:aroundT ts i dp=.ok (t,a)):cellR ts i dp =
  if isT ts a [61]=true∨isT ts a [43,61]=true∨isT ts a [45,61]=true then closeS ts (exprT ts (a+1) dp) [59] (fun e=>.mk (if isT ts a [61]=true then 2 else if isT ts a [43,61]=true then 3 else 4) [] [t,e] 0 [] [] (pAt ts i))
  else if isT ts a [60,62]=true then closeS ts (aroundT ts (a+1) dp) [59] (fun e=>.mk 5 [] [t,e] 0 [] [] (pAt ts i)) else .error a:=by
 unfold cellR
 rw [h]
 unfold closeS
 dsimp only
 split
 ·cases exprT ts (a+1) dp<;>rfl
 ·split
  ·cases aroundT ts (a+1) dp<;>rfl
  ·rfl
theorem aroundT_no {i dp:Nat} (h:isT ts i [91]=false):aroundT ts i dp=.error i:=by
 unfold aroundT
 rw [show 4*ts.length+8=(4*ts.length+7)+1 from rfl]
 unfold aroundR
 rw [if_neg (by rw [h];simp),if_neg (by rw [h];decide)]
theorem cellR_no {i dp k:Nat} (h:aroundT ts i dp=.error k):cellR ts i dp=.error k:=by
 unfold cellR
 rw [h]
set_option maxRecDepth 100000 in
set_option maxHeartbeats 8000000 in
theorem rcell_any (h:TS w v ts) {i:Nat} (hi:i < ts.length) (dp:Nat) (hdp:dp≤13):Calls Tryz.prog 98 #[v,.int .i64 (i:Int),.int .i64 (dp:Int)] w (RSt w (cellR ts i dp)):=by
 obtain ⟨b,cap,rfl,c0,c1,c2⟩:=h.at_ hi
 have hlen:=h.len
 have H:=Hd h
 have i0:(0:Int)≤(i:Int):=by omega
 have i1:(i:Int) < (ts.length:Int):=by omega
 obtain ⟨R,hR⟩:∃ R,R=cellR ts i dp:=⟨_,rfl⟩
 rw [← hR]
 obtain ⟨ps,hps⟩:∃ ps,ps=pAt ts i:=⟨_,rfl⟩
 rw [← hps] at c2
 have hbl:b < w.heap.size:=World.block_lt_of_cell? _ _ c0
 have hbn:b≠w.heap.size:=by omega
 have HR:=Hd (And.intro hR hps)
 obtain ⟨r,hr⟩:∃ r,r=aroundT ts i dp:=⟨_,rfl⟩
 have KA:=fun (W:World) (ho:Only [] w W)=>raround_any (h.quiet ho) (p:=.ok i) hi dp hdp
 rw [show aroundP ts (.ok i) dp=r from hr.symm,show zP (.ok i)=(i:Int) from rfl] at KA
 have hpo:PosOk ts (nextP r):=by rw [hr];exact aroundP_ok h.ends (p:=.ok i) hi dp
 have KI:=fun (W:World) (ho:Only [] w W) (x:ByteArray)=>ris_any (h.quiet ho) (nextP r) hpo x
 rw [← zR_next] at KI
 have HKA:=Hd KA
 have HKI:=Hd KI
 have HPO:=Hd hpo
 have HRr:=Hd hr
 clear h hR hps c0 c1 KA KI hpo hr
 go_enter Tryz.func98,Tryz.ntmps98
 go_wp2_with fail
 refine calls_two (fun w3 hA3 hB3 o3=>?_)
 refine (HKA.out w3 o3).mono ?_
 rintro e w4 ⟨k',n',s',a',l',c',p',rfl,hv,o4⟩
 have hA4:=o4.heap hA3 (by simp)
 have hB4:=o4.heap hB3 (by simp)
 have hsz3:w.heap.size+1 < w3.heap.size:=(Array.getElem?_eq_some_iff.1 hB3).1
 have hsz4:=o4.size
 have HV:=Hd hv
 have O4:=Hd (o3.trans o4 (by simp))
 clear hv hA3 hB3 o3 o4
 cases r with
 | error k2=>
  have hRR:R=.error k2:=by rw [HR.out.1];exact cellR_no HRr.out.symm
  have HRR:=Hd hRR
  have hF:∀ x,isP ts (nextP (.error k2:Except Nat (E×Nat))) x=false:=fun _=>rfl
  obtain ⟨y,hy,hy0,hy1⟩:∃ y:Int,zR (.error k2:Except Nat (E×Nat))=y∧y < 0∧y=-1 - (k2:Int):=⟨_,rfl,by show -1 - (k2:Int) < 0;omega,rfl⟩
  rw [hy] at HKI⊢
  have HY:=Hd hy1
  clear hRR hy hy1
  go_upto_region 6 with (fail)
  have o5:Only [] w4 (w4.alloc (.cells #[.int .i64 k',.int .i64 n',.string s',.slice a' l' c',.int .i64 p'] 72)):=(Only.refl _ _).alloc _
  generalize w4.alloc (.cells #[.int .i64 k',.int .i64 n',.string s',.slice a' l' c',.int .i64 p'] 72)=w5 at o5⊢
  have HA5:=Hd (o5.heap hA4 (by simp))
  have HB5:=Hd (o5.heap hB4 (by simp))
  have HO5:=Hd (O4.out.trans o5 (by simp))
  clear o5 hA4 hB4
  have KI:=fun x=>HKI.out w5 HO5.out x
  go_wp2_with fail
  refine (KI _).mono ?_
  rintro e w' ⟨rfl,rfl⟩
  rw [hF]
  go_wp2_with fail
  refine (KI _).mono ?_
  rintro e w' ⟨rfl,rfl⟩
  rw [hF]
  go_wp2_with fail
  refine (KI _).mono ?_
  rintro e w' ⟨rfl,rfl⟩
  rw [hF]
  go_wp2_with fail
  refine (KI _).mono ?_
  rintro e w' ⟨rfl,rfl⟩
  rw [hF]
  have b0:w5.cell? ⟨w.heap.size+1,0,none⟩=some (.int .i64 0):=cell_at 0 HB5.out
  have b1:w5.cell? ⟨w.heap.size+1,1,none⟩=some (.string ⟨#[]⟩):=cell_at 1 HB5.out
  have b2:w5.cell? ⟨w.heap.size+1,2,none⟩=some (.slice none 0 0):=cell_at 2 HB5.out
  have b3:w5.cell? ⟨w.heap.size+1,3,none⟩=some (.int .i64 0):=cell_at 3 HB5.out
  have b4:w5.cell? ⟨w.heap.size+1,4,none⟩=some (.slice none 0 0):=cell_at 4 HB5.out
  have b5:w5.cell? ⟨w.heap.size+1,5,none⟩=some (.slice none 0 0):=cell_at 5 HB5.out
  have b6:w5.cell? ⟨w.heap.size+1,6,none⟩=some (.int .i64 (ps:Int)):=cell_at 6 HB5.out
  have s0:w5.cell? ⟨w.heap.size,0,none⟩=some (.int .i64 0):=cell_at 0 HA5.out
  have s1:w5.cell? ⟨w.heap.size,1,none⟩=some (.string ⟨#[]⟩):=cell_at 1 HA5.out
  have s2:w5.cell? ⟨w.heap.size,2,none⟩=some (.slice none 0 0):=cell_at 2 HA5.out
  have s3:w5.cell? ⟨w.heap.size,3,none⟩=some (.int .i64 0):=cell_at 3 HA5.out
  have s4:w5.cell? ⟨w.heap.size,4,none⟩=some (.slice none 0 0):=cell_at 4 HA5.out
  have s5:w5.cell? ⟨w.heap.size,5,none⟩=some (.slice none 0 0):=cell_at 5 HA5.out
  have s6:w5.cell? ⟨w.heap.size,6,none⟩=some (.int .i64 0):=cell_at 6 HA5.out
  have gs0:=free_at 0 HA5.out
  have gs1:=free_at 1 HA5.out
  have gs2:=free_at 2 HA5.out
  have gs3:=free_at 3 HA5.out
  have gs4:=free_at 4 HA5.out
  have gs5:=free_at 5 HA5.out
  have gs6:=free_at 6 HA5.out
  clear KI hF
  go_wp2_with fail
  have oz:Only [w.heap.size] w5 (((((((w5.setCell ⟨w.heap.size,0,none⟩ (.int .i64 0)).setCell ⟨w.heap.size,1,none⟩ (.string ⟨#[]⟩)).setCell ⟨w.heap.size,2,none⟩ (.slice none 0 0)).setCell ⟨w.heap.size,3,none⟩ (.int .i64 0)).setCell ⟨w.heap.size,4,none⟩ (.slice none 0 0)).setCell ⟨w.heap.size,5,none⟩ (.slice none 0 0)).setCell ⟨w.heap.size,6,none⟩ (.int .i64 (ps:Int))):=
   (((((((Only.refl _ _).setCell (.inl (by simp)) _).setCell (.inl (by simp)) _).setCell (.inl (by simp)) _).setCell (.inl (by simp)) _).setCell (.inl (by simp)) _).setCell (.inl (by simp)) _).setCell (.inl (by simp)) _
  have hz:=seven_set HA5.out (.int .i64 0) (.string ⟨#[]⟩) (.slice none 0 0) (.int .i64 0) (.slice none 0 0) (.slice none 0 0) (.int .i64 (ps:Int))
  generalize ((((((w5.setCell ⟨w.heap.size,0,none⟩ (.int .i64 0)).setCell ⟨w.heap.size,1,none⟩ (.string ⟨#[]⟩)).setCell ⟨w.heap.size,2,none⟩ (.slice none 0 0)).setCell ⟨w.heap.size,3,none⟩ (.int .i64 0)).setCell ⟨w.heap.size,4,none⟩ (.slice none 0 0)).setCell ⟨w.heap.size,5,none⟩ (.slice none 0 0)).setCell ⟨w.heap.size,6,none⟩ (.int .i64 (ps:Int))=wz at oz hz⊢
  (try simp only [Exit.inBlock,Exit.then])
  refine bodyPost_ret (res_cell _ _ w.heap.size _ _ _ _ _ _ _ (.int .i64 y) rfl rfl hz) rfl ?_
  rw [HRR.out,HY.out]
  refine ⟨0,0,ps,⟨#[]⟩,none,none,none,0,0,0,0,0,0,rfl,(fun s j h=>by cases h),?_⟩
  exact HO5.out.trans (T:=[w.heap.size]) oz (fun k hk=>.inr (by rw [List.mem_singleton.1 hk];exact Nat.le_refl _))
 | ok y=>
  obtain ⟨t,a⟩:=y
  rw [show zR (.ok (t,a):Except Nat (E×Nat))=(a:Int) from rfl] at HKI
  rw [show zR (.ok (t,a):Except Nat (E×Nat))=(a:Int) from rfl]
  have HVt:=Hd (HV.out t a rfl)
  go_upto_region 6 with (fail)
  have o5:Only [] w4 (w4.alloc (.cells #[.int .i64 k',.int .i64 n',.string s',.slice a' l' c',.int .i64 p'] 72)):=(Only.refl _ _).alloc _
  have hX5:=heap_new w4 (.cells #[.int .i64 k',.int .i64 n',.string s',.slice a' l' c',.int .i64 p'] 72)
  generalize w4.alloc (.cells #[.int .i64 k',.int .i64 n',.string s',.slice a' l' c',.int .i64 p'] 72)=w5 at o5 hX5⊢
  have HA5:=Hd (o5.heap hA4 (by simp))
  have HB5:=Hd (o5.heap hB4 (by simp))
  have HX5:=Hd hX5
  have HO5:=Hd (O4.out.trans o5 (by simp))
  have O5:=Hd o5
  clear o5 hX5 hA4 hB4
  have KI:=fun x=>HKI.out w5 HO5.out x
  go_wp2_with fail
  refine (KI _).mono ?_
  rintro e w' ⟨rfl,rfl⟩
  cases d61:isP ts (nextP (.ok (t,a))) (⟨#[61]⟩:ByteArray).data.toList
  ·go_wp2_with fail
   refine (KI _).mono ?_
   rintro e w' ⟨rfl,rfl⟩
   cases d43:isP ts (nextP (.ok (t,a))) (⟨#[43,61]⟩:ByteArray).data.toList
   ·go_wp2_with fail
    refine (KI _).mono ?_
    rintro e w' ⟨rfl,rfl⟩
    cases d45:isP ts (nextP (.ok (t,a))) (⟨#[45,61]⟩:ByteArray).data.toList
    ·go_wp2_with fail
     refine (KI _).mono ?_
     rintro e w' ⟨rfl,rfl⟩
     cases d60:isP ts (nextP (.ok (t,a))) (⟨#[60,62]⟩:ByteArray).data.toList
     ·have hRR:R=.error a:=by
       rw [HR.out.1,cellR_of HRr.out.symm,if_neg (by rw [show isT ts a [61]=false from d61,show isT ts a [43,61]=false from d43,show isT ts a [45,61]=false from d45];decide),if_neg (by rw [show isT ts a [60,62]=false from d60];decide)]
      have haL:a < ts.length:=HPO.out
      have aN:¬ (a:Int) < 0:=by omega
      have HRR:=Hd hRR
      have hBd:=HB5.out
      have hAd:=HA5.out
      have HOe:=HO5
      clear hRR
      go_wp2_with fail
      have oD:Only [] w5 w5.drew:=(Only.refl [] w5).drew
      have hBd:=oD.heap hBd (by simp)
      have hAd:=oD.heap hAd (by simp)
      refine wp_region_held_drew (S:=fun w'=>w'.cell? ⟨w.heap.size+1,0,none⟩=some (.int .i64 0)∧w'.cell? ⟨w.heap.size+1,1,none⟩=some (.string ⟨#[]⟩)∧w'.cell? ⟨w.heap.size+1,2,none⟩=some (.slice none 0 0)∧w'.cell? ⟨w.heap.size+1,3,none⟩=some (.int .i64 0)∧w'.cell? ⟨w.heap.size+1,4,none⟩=some (.slice none 0 0)∧w'.cell? ⟨w.heap.size+1,5,none⟩=some (.slice none 0 0)∧w'.cell? ⟨w.heap.size+1,6,none⟩=some (.int .i64 (ps:Int))) (by kernel_rfl) ⟨cell_at 0 hBd,cell_at 1 hBd,cell_at 2 hBd,cell_at 3 hBd,cell_at 4 hBd,cell_at 5 hBd,cell_at 6 hBd⟩ (fun hH=>?_)
      have HBd:=Hd hBd
      have HAd:=Hd hAd
      have HOd:=Hd oD
      clear hBd hAd oD
      generalize w5.drew=wd at HBd HAd HOd hH⊢
      refine tk 0 hH ?_
      refine tk 1 hH ?_
      refine rd 2 (fun K hK=>?_)
      go_simp
      refine (rbad_any a (by omega) _).mono ?_
      rintro e w' ⟨rfl,rfl⟩
      refine hK.out _ _ hH (fun hH=>?_)
      clear hK K
      have s0:wd.cell? ⟨w.heap.size,0,none⟩=some (.int .i64 0):=cell_at 0 HAd.out
      have s1:wd.cell? ⟨w.heap.size,1,none⟩=some (.string ⟨#[]⟩):=cell_at 1 HAd.out
      have s2:wd.cell? ⟨w.heap.size,2,none⟩=some (.slice none 0 0):=cell_at 2 HAd.out
      have s3:wd.cell? ⟨w.heap.size,3,none⟩=some (.int .i64 0):=cell_at 3 HAd.out
      have s4:wd.cell? ⟨w.heap.size,4,none⟩=some (.slice none 0 0):=cell_at 4 HAd.out
      have s5:wd.cell? ⟨w.heap.size,5,none⟩=some (.slice none 0 0):=cell_at 5 HAd.out
      have s6:wd.cell? ⟨w.heap.size,6,none⟩=some (.int .i64 0):=cell_at 6 HAd.out
      have gs0:=free_at 0 HAd.out
      have gs1:=free_at 1 HAd.out
      have gs2:=free_at 2 HAd.out
      have gs3:=free_at 3 HAd.out
      have gs4:=free_at 4 HAd.out
      have gs5:=free_at 5 HAd.out
      have gs6:=free_at 6 HAd.out
      clear hH
      refine rd 3 (fun K hK=>?_)
      go_simp
      have oz:Only [w.heap.size] wd (((((((wd.setCell ⟨w.heap.size,0,none⟩ (.int .i64 0)).setCell ⟨w.heap.size,1,none⟩ (.string ⟨#[]⟩)).setCell ⟨w.heap.size,2,none⟩ (.slice none 0 0)).setCell ⟨w.heap.size,3,none⟩ (.int .i64 0)).setCell ⟨w.heap.size,4,none⟩ (.slice none 0 0)).setCell ⟨w.heap.size,5,none⟩ (.slice none 0 0)).setCell ⟨w.heap.size,6,none⟩ (.int .i64 (ps:Int))):=
       (((((((Only.refl _ _).setCell (.inl (by simp)) _).setCell (.inl (by simp)) _).setCell (.inl (by simp)) _).setCell (.inl (by simp)) _).setCell (.inl (by simp)) _).setCell (.inl (by simp)) _).setCell (.inl (by simp)) _
      have hz:=seven_set HAd.out (.int .i64 0) (.string ⟨#[]⟩) (.slice none 0 0) (.int .i64 0) (.slice none 0 0) (.slice none 0 0) (.int .i64 (ps:Int))
      have hBz:=oz.heap HBd.out (by simp)
      generalize ((((((wd.setCell ⟨w.heap.size,0,none⟩ (.int .i64 0)).setCell ⟨w.heap.size,1,none⟩ (.string ⟨#[]⟩)).setCell ⟨w.heap.size,2,none⟩ (.slice none 0 0)).setCell ⟨w.heap.size,3,none⟩ (.int .i64 0)).setCell ⟨w.heap.size,4,none⟩ (.slice none 0 0)).setCell ⟨w.heap.size,5,none⟩ (.slice none 0 0)).setCell ⟨w.heap.size,6,none⟩ (.int .i64 (ps:Int))=wz at oz hz hBz⊢
      have HOz:=Hd oz
      have HZ:=Hd hz
      refine hK.out _ _ ⟨cell_at 0 hBz,cell_at 1 hBz,cell_at 2 hBz,cell_at 3 hBz,cell_at 4 hBz,cell_at 5 hBz,cell_at 6 hBz⟩ (fun hH=>?_)
      clear hK K hz hBz oz s0 s1 s2 s3 s4 s5 s6 gs0 gs1 gs2 gs3 gs4 gs5 gs6
      refine tk 4 hH ?_
      refine wpAnyH_done (by kernel_rfl) ?_ _
      clear hH
      go_wp2_with fail
      (try simp only [Exit.inBlock,Exit.then])
      refine bodyPost_ret (res_cell _ _ w.heap.size _ _ _ _ _ _ _ (.int .i64 (-1 - (a:Int))) rfl rfl HZ.out) rfl ?_
      rw [HRR.out]
      refine ⟨0,0,ps,⟨#[]⟩,none,none,none,0,0,0,0,0,0,rfl,(fun s j h=>by cases h),?_⟩
      exact (HOe.out.trans HOd.out (by simp)).trans (T:=[w.heap.size]) HOz.out (fun k hk=>.inr (by rw [List.mem_singleton.1 hk];exact Nat.le_refl _))
     ·skip
      obtain ⟨r2,hr2⟩:∃ r2,r2=aroundT ts (a+1) dp:=⟨_,rfl⟩
      have ha1:a+1 < ts.length:=isT_lt H.out.ends HPO.out d60
      have hRR:R=closeS ts r2 [59] (fun e=>.mk 5 [] [t,e] 0 [] [] ps):=by
       rw [HR.out.1,cellR_of HRr.out.symm,← HR.out.2,← hr2]
       (rw [if_neg (by rw [show isT ts a [61]=false from d61,show isT ts a [43,61]=false from d43,show isT ts a [45,61]=false from d45];decide),if_pos (show isT ts a [60,62]=true from d60)])
      have KE:=fun (W:World) (ho:Only [] w W)=>raround_any (H.out.quiet ho) (p:=.ok (a+1)) ha1 dp hdp
      rw [show aroundP ts (.ok (a+1)) dp=r2 from hr2.symm,show zP (.ok (a+1))=(a:Int)+1 from by show ((a+1:Nat):Int)=_;omega] at KE
      have hpo2:PosOk ts (nextP r2):=by rw [hr2];exact aroundP_ok H.out.ends (p:=.ok (a+1)) ha1 dp
      have KC:=fun (W:World) (ho:Only [] w W)=>reat_any (H.out.quiet ho) (nextP r2) hpo2 ⟨#[59]⟩
      rw [← zR_next] at KC
      have hcz:zR (closeS ts r2 [59] (fun e=>.mk 5 [] [t,e] 0 [] [] ps))=zP (eatP ts (nextP r2) (⟨#[59]⟩:ByteArray).data.toList):=closeS_z ts r2 [59] _
      generalize zP (eatP ts (nextP r2) (⟨#[59]⟩:ByteArray).data.toList)=zc at KC hcz
      have HCZ:=Hd hcz
      have HRR:=Hd hRR
      have HE2:=Hd hr2
      have KJ:=fun (W:World) (ho:Only [] w W)=>ris_any (H.out.quiet ho) (.ok (a+1)) ha1 ⟨#[91]⟩
      rw [show zP (.ok (a+1))=(a:Int)+1 from by show ((a+1:Nat):Int)=_;omega] at KJ
      have HKJ:=Hd KJ
      have HKE:=Hd KE
      have HKC:=Hd KC
      have gb0:=free_at 0 HB5.out
      have b0:w5.cell? ⟨w.heap.size+1,0,none⟩=some (.int .i64 0):=cell_at 0 HB5.out
      clear hRR KE KC hpo2 hr2 hcz KJ
      go_wp2_with fail
      have ob:Only [w.heap.size+1] w5 (w5.setCell ⟨w.heap.size+1,0,none⟩ (.int .i64 5)):=(Only.refl _ _).setCell (.inl (by simp)) _
      have hB6:=heap_cell (i:=0) (.int .i64 5) HB5.out
      generalize w5.setCell ⟨w.heap.size+1,0,none⟩ (.int .i64 5)=wb at ob hB6⊢
      have owb:Only [] w wb:=HO5.out.trans (T:=[w.heap.size+1]) ob (fun k hk=>.inr (by rw [List.mem_singleton.1 hk];omega))
      refine (HKE.out wb owb).mono ?_
      rintro e w6 ⟨k2,n2,s2,a2,l2,c2,p2,rfl,hv2,o6⟩
      have hA6:=o6.heap (ob.heap HA5.out (by simp)) (by simp)
      have hB6':=o6.heap hB6 (by simp)
      have hX6:=o6.heap (ob.heap HX5.out (by simp;omega)) (by simp)
      have szb:=ob.size
      have sz5:=O5.out.size
      have sz6:=o6.size
      have HVt6:EV w6 (fun b=>w.heap.size+1 < b) t _:=EV.quiet (EV.kept ob (fun k hk hB=>by rw [List.mem_singleton.1 hk] at hB;exact absurd hB (by omega)) (fun _ h=>h) t _ (EV.quiet (EV.kept (Only.refl [] w4) (by simp) (fun b hb=>show w.heap.size+1 < b from Nat.lt_of_lt_of_le hsz3 hb) t _ HVt.out) O5.out)) o6
      have HV2:∀ e j,r2=.ok (e,j)→EV w6 (fun b=>w.heap.size+1 < b) e _:=fun e j he=>EV.kept (Only.refl [] w6) (by simp) (fun b hb=>by have:wb.heap.size≤b:=hb;have:=O5.out.size;omega) e _ (hv2 e j he)
      have HVS:=Hd (And.intro HVt6 HV2)
      have HO6:=Hd (owb.trans o6 (by simp))
      clear HVt6 HV2 hv2 ob hB6 owb o6
      go_upto_region 15 with (fail)
      have o7:Only [] w6 (w6.alloc (.cells #[.int .i64 k2,.int .i64 n2,.string s2,.slice a2 l2 c2,.int .i64 p2] 72)):=(Only.refl _ _).alloc _
      have hY7:=heap_new w6 (.cells #[.int .i64 k2,.int .i64 n2,.string s2,.slice a2 l2 c2,.int .i64 p2] 72)
      have hs7:(w6.alloc (.cells #[.int .i64 k2,.int .i64 n2,.string s2,.slice a2 l2 c2,.int .i64 p2] 72)).heap.size=w6.heap.size+1:=Array.size_push _
      generalize w6.alloc (.cells #[.int .i64 k2,.int .i64 n2,.string s2,.slice a2 l2 c2,.int .i64 p2] 72)=w7 at o7 hY7 hs7⊢
      have hA7:=o7.heap hA6 (by simp)
      have hB7:=o7.heap hB6' (by simp)
      have hX7:=o7.heap hX6 (by simp)
      have x0:w7.cell? ⟨w4.heap.size,0,none⟩=some (.int .i64 k'):=cell_at 0 hX7
      have x1:w7.cell? ⟨w4.heap.size,1,none⟩=some (.int .i64 n'):=cell_at 1 hX7
      have x2:w7.cell? ⟨w4.heap.size,2,none⟩=some (.string s'):=cell_at 2 hX7
      have x3:w7.cell? ⟨w4.heap.size,3,none⟩=some (.slice a' l' c'):=cell_at 3 hX7
      have x4:w7.cell? ⟨w4.heap.size,4,none⟩=some (.int .i64 p'):=cell_at 4 hX7
      have y0:w7.cell? ⟨w6.heap.size,0,none⟩=some (.int .i64 k2):=cell_at 0 hY7
      have y1:w7.cell? ⟨w6.heap.size,1,none⟩=some (.int .i64 n2):=cell_at 1 hY7
      have y2:w7.cell? ⟨w6.heap.size,2,none⟩=some (.string s2):=cell_at 2 hY7
      have y3:w7.cell? ⟨w6.heap.size,3,none⟩=some (.slice a2 l2 c2):=cell_at 3 hY7
      have y4:w7.cell? ⟨w6.heap.size,4,none⟩=some (.int .i64 p2):=cell_at 4 hY7
      have b2:w7.cell? ⟨w.heap.size+1,2,none⟩=some (.slice none 0 0):=cell_at 2 hB7
      have gb2:=free_at 2 hB7
      have lB:w.heap.size+1 < w7.heap.size:=by omega
      have nB:w.heap.size+1≠w7.heap.size:=by omega
      have lX:w4.heap.size < w7.heap.size:=(Array.getElem?_eq_some_iff.1 hX7).1
      have nX:w4.heap.size≠w7.heap.size:=by omega
      have lY:w6.heap.size < w7.heap.size:=by omega
      have nY:w6.heap.size≠w7.heap.size:=by omega
      have HA7:=Hd hA7
      have HB7:=Hd hB7
      have HO7:=Hd o7
      clear hA7 hB7 hX7 hY7 o7 hA6 hB6' hX6 hs7
      have HO67:=Hd (HO6.out.trans HO7.out (by simp))
      by_cases hz2:zR r2 < 0
      ·obtain ⟨k9,hk9⟩:∃ k9,r2=.error k9:=by
        revert hz2
        cases r2 with
        | error k9=>exact fun _=>⟨k9,rfl⟩
        | ok y=>
         obtain ⟨t9,a9⟩:=y
         exact fun hz2=>absurd (show ((a9:Nat):Int) < 0 from hz2) (by omega)
       have HK9:=Hd hk9
       clear hk9
       cases d91:isP ts (.ok (a+1)) (⟨#[91]⟩:ByteArray).data.toList
       ·have e9:zR r2=-1 - ((a:Int)+1):=by
         rw [HE2.out,aroundT_no (show isT ts (a+1) [91]=false from d91)]
         show -1 - ((a+1:Nat):Int)=_
         omega
        have KB:=rbad_any (a+1) (by omega) w7
        rw [show ((a+1:Nat):Int)=(a:Int)+1 by omega] at KB
        have HE9:=Hd e9
        clear e9
        go_wp2_with fail
        refine (HKJ.out _ HO67.out).mono ?_
        rintro e w' ⟨rfl,rfl⟩
        rw [d91]
        go_wp2_with fail
        refine KB.mono ?_
        rintro e w' ⟨rfl,rfl⟩
        rw [← HE9.out]
        go_upto_region 18 with (fail)
        have oc:Only [w.heap.size+1] w7 (w7.setCell ⟨w.heap.size+1,2,none⟩ (.slice (some ⟨w7.heap.size,0,none⟩) 2 2)):=(Only.refl _ _).setCell (.inl (by simp)) _
        have hBc:=heap_cell (i:=2) (.slice (some ⟨w7.heap.size,0,none⟩) 2 2) HB7.out
        have hsc:(w7.setCell ⟨w.heap.size+1,2,none⟩ (.slice (some ⟨w7.heap.size,0,none⟩) 2 2)).heap.size=w7.heap.size:=by simp
        have hAc:=oc.heap HA7.out (by simp)
        generalize w7.setCell ⟨w.heap.size+1,2,none⟩ (.slice (some ⟨w7.heap.size,0,none⟩) 2 2)=wc at oc hBc hsc hAc⊢
        have e1:EV wc (fun b=>w.heap.size+1 < b) t _:=EV.kept oc (fun k hk hB=>by rw [List.mem_singleton.1 hk] at hB;exact absurd hB (by omega)) (fun _ h=>h) t _ (EV.quiet HVS.out.1 HO7.out)
        have e2:∀ e j,r2=.ok (e,j)→EV wc (fun b=>w.heap.size+1 < b) e _:=fun e j he=>EV.kept oc (fun k hk hB=>by rw [List.mem_singleton.1 hk] at hB;exact absurd hB (by omega)) (fun _ h=>h) e _ (EV.quiet (HVS.out.2 e j he) HO7.out)
        have e3:∀ e j,r2=.ok (e,j)→EsV (wc.alloc (.cells #[.int .i64 k',.int .i64 n',.string s',.slice a' l' c',.int .i64 p',.int .i64 k2,.int .i64 n2,.string s2,.slice a2 l2 c2,.int .i64 p2] 72)) (fun b=>w.heap.size+1 < b) (.slice (some ⟨w7.heap.size,0,none⟩) 2 2) [t,e]:=fun e j he=>by
         have:=EsV.made2 e1 (e2 e j he) (by omega)
         rw [hsc] at this
         exact this
        have od:Only [w.heap.size+1] w7 (wc.alloc (.cells #[.int .i64 k',.int .i64 n',.string s',.slice a' l' c',.int .i64 p',.int .i64 k2,.int .i64 n2,.string s2,.slice a2 l2 c2,.int .i64 p2] 72)):=oc.alloc _
        have hBd:=heap_old (.cells #[.int .i64 k',.int .i64 n',.string s',.slice a' l' c',.int .i64 p',.int .i64 k2,.int .i64 n2,.string s2,.slice a2 l2 c2,.int .i64 p2] 72) hBc
        have hAd:=heap_old (.cells #[.int .i64 k',.int .i64 n',.string s',.slice a' l' c',.int .i64 p',.int .i64 k2,.int .i64 n2,.string s2,.slice a2 l2 c2,.int .i64 p2] 72) hAc
        generalize wc.alloc (.cells #[.int .i64 k',.int .i64 n',.string s',.slice a' l' c',.int .i64 p',.int .i64 k2,.int .i64 n2,.string s2,.slice a2 l2 c2,.int .i64 p2] 72)=we at e3 od hBd hAd⊢
        have HE3:=Hd e3
        have HOe:=Hd ((HO6.out.trans HO7.out (by simp)).trans (T:=[w.heap.size+1]) od (fun k hk=>.inr (by rw [List.mem_singleton.1 hk];omega)))
        clear e1 e2 e3 oc hBc hsc hAc od x0 x1 x2 x3 x4 y0 y1 y2 y3 y4 b2 gb2 lB nB lX nX lY nY HB7 HA7
        have oD:Only [] we we.drew:=(Only.refl [] we).drew
        have hBd:=oD.heap hBd (by simp)
        have hAd:=oD.heap hAd (by simp)
        refine wp_region_held_drew (S:=fun w'=>w'.cell? ⟨w.heap.size+1,0,none⟩=some (.int .i64 5)∧w'.cell? ⟨w.heap.size+1,1,none⟩=some (.string ⟨#[]⟩)∧w'.cell? ⟨w.heap.size+1,2,none⟩=some (.slice (some ⟨w7.heap.size,0,none⟩) 2 2)∧w'.cell? ⟨w.heap.size+1,3,none⟩=some (.int .i64 0)∧w'.cell? ⟨w.heap.size+1,4,none⟩=some (.slice none 0 0)∧w'.cell? ⟨w.heap.size+1,5,none⟩=some (.slice none 0 0)∧w'.cell? ⟨w.heap.size+1,6,none⟩=some (.int .i64 (ps:Int))) (by kernel_rfl) ⟨cell_at 0 hBd,cell_at 1 hBd,cell_at 2 hBd,cell_at 3 hBd,cell_at 4 hBd,cell_at 5 hBd,cell_at 6 hBd⟩ (fun hH=>?_)
        have HBd:=Hd hBd
        have HAd:=Hd hAd
        have HOd:=Hd oD
        clear hBd hAd oD
        generalize we.drew=wd at HBd HAd HOd hH⊢
        refine tk 0 hH ?_
        refine tk 1 hH ?_
        refine tk 2 hH ?_
        refine rd 3 (fun K hK=>?_)
        go_simp
        refine (HKC.out _ (HOe.out.trans HOd.out (by simp))).mono ?_
        rintro e w' ⟨rfl,rfl⟩
        refine hK.out _ _ hH (fun hH=>?_)
        clear hK K
        have s0:wd.cell? ⟨w.heap.size,0,none⟩=some (.int .i64 0):=cell_at 0 HAd.out
        have s1:wd.cell? ⟨w.heap.size,1,none⟩=some (.string ⟨#[]⟩):=cell_at 1 HAd.out
        have s2:wd.cell? ⟨w.heap.size,2,none⟩=some (.slice none 0 0):=cell_at 2 HAd.out
        have s3:wd.cell? ⟨w.heap.size,3,none⟩=some (.int .i64 0):=cell_at 3 HAd.out
        have s4:wd.cell? ⟨w.heap.size,4,none⟩=some (.slice none 0 0):=cell_at 4 HAd.out
        have s5:wd.cell? ⟨w.heap.size,5,none⟩=some (.slice none 0 0):=cell_at 5 HAd.out
        have s6:wd.cell? ⟨w.heap.size,6,none⟩=some (.int .i64 0):=cell_at 6 HAd.out
        have gs0:=free_at 0 HAd.out
        have gs1:=free_at 1 HAd.out
        have gs2:=free_at 2 HAd.out
        have gs3:=free_at 3 HAd.out
        have gs4:=free_at 4 HAd.out
        have gs5:=free_at 5 HAd.out
        have gs6:=free_at 6 HAd.out
        clear hH
        refine rd 4 (fun K hK=>?_)
        go_simp
        have oz:Only [w.heap.size] wd (((((((wd.setCell ⟨w.heap.size,0,none⟩ (.int .i64 5)).setCell ⟨w.heap.size,1,none⟩ (.string ⟨#[]⟩)).setCell ⟨w.heap.size,2,none⟩ (.slice (some ⟨w7.heap.size,0,none⟩) 2 2)).setCell ⟨w.heap.size,3,none⟩ (.int .i64 0)).setCell ⟨w.heap.size,4,none⟩ (.slice none 0 0)).setCell ⟨w.heap.size,5,none⟩ (.slice none 0 0)).setCell ⟨w.heap.size,6,none⟩ (.int .i64 (ps:Int))):=
         (((((((Only.refl _ _).setCell (.inl (by simp)) _).setCell (.inl (by simp)) _).setCell (.inl (by simp)) _).setCell (.inl (by simp)) _).setCell (.inl (by simp)) _).setCell (.inl (by simp)) _).setCell (.inl (by simp)) _
        have hz:=seven_set HAd.out (.int .i64 5) (.string ⟨#[]⟩) (.slice (some ⟨w7.heap.size,0,none⟩) 2 2) (.int .i64 0) (.slice none 0 0) (.slice none 0 0) (.int .i64 (ps:Int))
        have hBz:=oz.heap HBd.out (by simp)
        generalize ((((((wd.setCell ⟨w.heap.size,0,none⟩ (.int .i64 5)).setCell ⟨w.heap.size,1,none⟩ (.string ⟨#[]⟩)).setCell ⟨w.heap.size,2,none⟩ (.slice (some ⟨w7.heap.size,0,none⟩) 2 2)).setCell ⟨w.heap.size,3,none⟩ (.int .i64 0)).setCell ⟨w.heap.size,4,none⟩ (.slice none 0 0)).setCell ⟨w.heap.size,5,none⟩ (.slice none 0 0)).setCell ⟨w.heap.size,6,none⟩ (.int .i64 (ps:Int))=wz at oz hz hBz⊢
        have HOz:=Hd oz
        have HZ:=Hd hz
        refine hK.out _ _ ⟨cell_at 0 hBz,cell_at 1 hBz,cell_at 2 hBz,cell_at 3 hBz,cell_at 4 hBz,cell_at 5 hBz,cell_at 6 hBz⟩ (fun hH=>?_)
        clear hK K hz hBz oz s0 s1 s2 s3 s4 s5 s6 gs0 gs1 gs2 gs3 gs4 gs5 gs6
        refine tk 5 hH ?_
        refine wpAnyH_done (by kernel_rfl) ?_ _
        clear hH
        go_wp2_with fail
        (try simp only [Exit.inBlock,Exit.then])
        refine bodyPost_ret (res_cell _ _ w.heap.size _ _ _ _ _ _ _ (.int .i64 zc) rfl rfl HZ.out) rfl ?_
        rw [HRR.out]
        refine ⟨5,0,ps,⟨#[]⟩,some ⟨w7.heap.size,0,none⟩,none,none,2,0,0,2,0,0,by rw [HCZ.out],fun s j hs=>?_,?_⟩
        ·obtain ⟨e,a3,he,rfl⟩:=closeS_ok hs
         refine SV.kept (S:=[w.heap.size]) ((HOd.out.mono (T:=[w.heap.size]) (by simp)).trans HOz.out (fun k hk=>.inl hk)) (fun k hk hB=>?_) (fun b hb=>?_) _ _ (SV.mk' (w:=we) (B:=fun b=>w.heap.size+1 < b) (nm:=[]) (HE3.out e a3 he) (SsV.nil _ _) (SsV.nil _ _))
         ·rw [List.mem_singleton.1 hk] at hB
          exact absurd hB (by omega)
         ·show w.heap.size≤b
          have:w.heap.size+1 < b:=hb
          omega
        ·exact (HOe.out.trans HOd.out (by simp)).trans (T:=[w.heap.size]) HOz.out (fun k hk=>.inr (by rw [List.mem_singleton.1 hk];exact Nat.le_refl _))
       ·go_wp2_with fail
        refine (HKJ.out _ HO67.out).mono ?_
        rintro e w' ⟨rfl,rfl⟩
        rw [d91]
        go_upto_region 18 with (fail)
        have oc:Only [w.heap.size+1] w7 (w7.setCell ⟨w.heap.size+1,2,none⟩ (.slice (some ⟨w7.heap.size,0,none⟩) 2 2)):=(Only.refl _ _).setCell (.inl (by simp)) _
        have hBc:=heap_cell (i:=2) (.slice (some ⟨w7.heap.size,0,none⟩) 2 2) HB7.out
        have hsc:(w7.setCell ⟨w.heap.size+1,2,none⟩ (.slice (some ⟨w7.heap.size,0,none⟩) 2 2)).heap.size=w7.heap.size:=by simp
        have hAc:=oc.heap HA7.out (by simp)
        generalize w7.setCell ⟨w.heap.size+1,2,none⟩ (.slice (some ⟨w7.heap.size,0,none⟩) 2 2)=wc at oc hBc hsc hAc⊢
        have e1:EV wc (fun b=>w.heap.size+1 < b) t _:=EV.kept oc (fun k hk hB=>by rw [List.mem_singleton.1 hk] at hB;exact absurd hB (by omega)) (fun _ h=>h) t _ (EV.quiet HVS.out.1 HO7.out)
        have e2:∀ e j,r2=.ok (e,j)→EV wc (fun b=>w.heap.size+1 < b) e _:=fun e j he=>EV.kept oc (fun k hk hB=>by rw [List.mem_singleton.1 hk] at hB;exact absurd hB (by omega)) (fun _ h=>h) e _ (EV.quiet (HVS.out.2 e j he) HO7.out)
        have e3:∀ e j,r2=.ok (e,j)→EsV (wc.alloc (.cells #[.int .i64 k',.int .i64 n',.string s',.slice a' l' c',.int .i64 p',.int .i64 k2,.int .i64 n2,.string s2,.slice a2 l2 c2,.int .i64 p2] 72)) (fun b=>w.heap.size+1 < b) (.slice (some ⟨w7.heap.size,0,none⟩) 2 2) [t,e]:=fun e j he=>by
         have:=EsV.made2 e1 (e2 e j he) (by omega)
         rw [hsc] at this
         exact this
        have od:Only [w.heap.size+1] w7 (wc.alloc (.cells #[.int .i64 k',.int .i64 n',.string s',.slice a' l' c',.int .i64 p',.int .i64 k2,.int .i64 n2,.string s2,.slice a2 l2 c2,.int .i64 p2] 72)):=oc.alloc _
        have hBd:=heap_old (.cells #[.int .i64 k',.int .i64 n',.string s',.slice a' l' c',.int .i64 p',.int .i64 k2,.int .i64 n2,.string s2,.slice a2 l2 c2,.int .i64 p2] 72) hBc
        have hAd:=heap_old (.cells #[.int .i64 k',.int .i64 n',.string s',.slice a' l' c',.int .i64 p',.int .i64 k2,.int .i64 n2,.string s2,.slice a2 l2 c2,.int .i64 p2] 72) hAc
        generalize wc.alloc (.cells #[.int .i64 k',.int .i64 n',.string s',.slice a' l' c',.int .i64 p',.int .i64 k2,.int .i64 n2,.string s2,.slice a2 l2 c2,.int .i64 p2] 72)=we at e3 od hBd hAd⊢
        have HE3:=Hd e3
        have HOe:=Hd ((HO6.out.trans HO7.out (by simp)).trans (T:=[w.heap.size+1]) od (fun k hk=>.inr (by rw [List.mem_singleton.1 hk];omega)))
        clear e1 e2 e3 oc hBc hsc hAc od x0 x1 x2 x3 x4 y0 y1 y2 y3 y4 b2 gb2 lB nB lX nX lY nY HB7 HA7
        have oD:Only [] we we.drew:=(Only.refl [] we).drew
        have hBd:=oD.heap hBd (by simp)
        have hAd:=oD.heap hAd (by simp)
        refine wp_region_held_drew (S:=fun w'=>w'.cell? ⟨w.heap.size+1,0,none⟩=some (.int .i64 5)∧w'.cell? ⟨w.heap.size+1,1,none⟩=some (.string ⟨#[]⟩)∧w'.cell? ⟨w.heap.size+1,2,none⟩=some (.slice (some ⟨w7.heap.size,0,none⟩) 2 2)∧w'.cell? ⟨w.heap.size+1,3,none⟩=some (.int .i64 0)∧w'.cell? ⟨w.heap.size+1,4,none⟩=some (.slice none 0 0)∧w'.cell? ⟨w.heap.size+1,5,none⟩=some (.slice none 0 0)∧w'.cell? ⟨w.heap.size+1,6,none⟩=some (.int .i64 (ps:Int))) (by kernel_rfl) ⟨cell_at 0 hBd,cell_at 1 hBd,cell_at 2 hBd,cell_at 3 hBd,cell_at 4 hBd,cell_at 5 hBd,cell_at 6 hBd⟩ (fun hH=>?_)
        have HBd:=Hd hBd
        have HAd:=Hd hAd
        have HOd:=Hd oD
        clear hBd hAd oD
        generalize we.drew=wd at HBd HAd HOd hH⊢
        refine tk 0 hH ?_
        refine tk 1 hH ?_
        refine tk 2 hH ?_
        refine rd 3 (fun K hK=>?_)
        go_simp
        refine (HKC.out _ (HOe.out.trans HOd.out (by simp))).mono ?_
        rintro e w' ⟨rfl,rfl⟩
        refine hK.out _ _ hH (fun hH=>?_)
        clear hK K
        have s0:wd.cell? ⟨w.heap.size,0,none⟩=some (.int .i64 0):=cell_at 0 HAd.out
        have s1:wd.cell? ⟨w.heap.size,1,none⟩=some (.string ⟨#[]⟩):=cell_at 1 HAd.out
        have s2:wd.cell? ⟨w.heap.size,2,none⟩=some (.slice none 0 0):=cell_at 2 HAd.out
        have s3:wd.cell? ⟨w.heap.size,3,none⟩=some (.int .i64 0):=cell_at 3 HAd.out
        have s4:wd.cell? ⟨w.heap.size,4,none⟩=some (.slice none 0 0):=cell_at 4 HAd.out
        have s5:wd.cell? ⟨w.heap.size,5,none⟩=some (.slice none 0 0):=cell_at 5 HAd.out
        have s6:wd.cell? ⟨w.heap.size,6,none⟩=some (.int .i64 0):=cell_at 6 HAd.out
        have gs0:=free_at 0 HAd.out
        have gs1:=free_at 1 HAd.out
        have gs2:=free_at 2 HAd.out
        have gs3:=free_at 3 HAd.out
        have gs4:=free_at 4 HAd.out
        have gs5:=free_at 5 HAd.out
        have gs6:=free_at 6 HAd.out
        clear hH
        refine rd 4 (fun K hK=>?_)
        go_simp
        have oz:Only [w.heap.size] wd (((((((wd.setCell ⟨w.heap.size,0,none⟩ (.int .i64 5)).setCell ⟨w.heap.size,1,none⟩ (.string ⟨#[]⟩)).setCell ⟨w.heap.size,2,none⟩ (.slice (some ⟨w7.heap.size,0,none⟩) 2 2)).setCell ⟨w.heap.size,3,none⟩ (.int .i64 0)).setCell ⟨w.heap.size,4,none⟩ (.slice none 0 0)).setCell ⟨w.heap.size,5,none⟩ (.slice none 0 0)).setCell ⟨w.heap.size,6,none⟩ (.int .i64 (ps:Int))):=
         (((((((Only.refl _ _).setCell (.inl (by simp)) _).setCell (.inl (by simp)) _).setCell (.inl (by simp)) _).setCell (.inl (by simp)) _).setCell (.inl (by simp)) _).setCell (.inl (by simp)) _).setCell (.inl (by simp)) _
        have hz:=seven_set HAd.out (.int .i64 5) (.string ⟨#[]⟩) (.slice (some ⟨w7.heap.size,0,none⟩) 2 2) (.int .i64 0) (.slice none 0 0) (.slice none 0 0) (.int .i64 (ps:Int))
        have hBz:=oz.heap HBd.out (by simp)
        generalize ((((((wd.setCell ⟨w.heap.size,0,none⟩ (.int .i64 5)).setCell ⟨w.heap.size,1,none⟩ (.string ⟨#[]⟩)).setCell ⟨w.heap.size,2,none⟩ (.slice (some ⟨w7.heap.size,0,none⟩) 2 2)).setCell ⟨w.heap.size,3,none⟩ (.int .i64 0)).setCell ⟨w.heap.size,4,none⟩ (.slice none 0 0)).setCell ⟨w.heap.size,5,none⟩ (.slice none 0 0)).setCell ⟨w.heap.size,6,none⟩ (.int .i64 (ps:Int))=wz at oz hz hBz⊢
        have HOz:=Hd oz
        have HZ:=Hd hz
        refine hK.out _ _ ⟨cell_at 0 hBz,cell_at 1 hBz,cell_at 2 hBz,cell_at 3 hBz,cell_at 4 hBz,cell_at 5 hBz,cell_at 6 hBz⟩ (fun hH=>?_)
        clear hK K hz hBz oz s0 s1 s2 s3 s4 s5 s6 gs0 gs1 gs2 gs3 gs4 gs5 gs6
        refine tk 5 hH ?_
        refine wpAnyH_done (by kernel_rfl) ?_ _
        clear hH
        go_wp2_with fail
        (try simp only [Exit.inBlock,Exit.then])
        refine bodyPost_ret (res_cell _ _ w.heap.size _ _ _ _ _ _ _ (.int .i64 zc) rfl rfl HZ.out) rfl ?_
        rw [HRR.out]
        refine ⟨5,0,ps,⟨#[]⟩,some ⟨w7.heap.size,0,none⟩,none,none,2,0,0,2,0,0,by rw [HCZ.out],fun s j hs=>?_,?_⟩
        ·obtain ⟨e,a3,he,rfl⟩:=closeS_ok hs
         refine SV.kept (S:=[w.heap.size]) ((HOd.out.mono (T:=[w.heap.size]) (by simp)).trans HOz.out (fun k hk=>.inl hk)) (fun k hk hB=>?_) (fun b hb=>?_) _ _ (SV.mk' (w:=we) (B:=fun b=>w.heap.size+1 < b) (nm:=[]) (HE3.out e a3 he) (SsV.nil _ _) (SsV.nil _ _))
         ·rw [List.mem_singleton.1 hk] at hB
          exact absurd hB (by omega)
         ·show w.heap.size≤b
          have:w.heap.size+1 < b:=hb
          omega
        ·exact (HOe.out.trans HOd.out (by simp)).trans (T:=[w.heap.size]) HOz.out (fun k hk=>.inr (by rw [List.mem_singleton.1 hk];exact Nat.le_refl _))
      ·skip
       go_upto_region 18 with (fail)
       have oc:Only [w.heap.size+1] w7 (w7.setCell ⟨w.heap.size+1,2,none⟩ (.slice (some ⟨w7.heap.size,0,none⟩) 2 2)):=(Only.refl _ _).setCell (.inl (by simp)) _
       have hBc:=heap_cell (i:=2) (.slice (some ⟨w7.heap.size,0,none⟩) 2 2) HB7.out
       have hsc:(w7.setCell ⟨w.heap.size+1,2,none⟩ (.slice (some ⟨w7.heap.size,0,none⟩) 2 2)).heap.size=w7.heap.size:=by simp
       have hAc:=oc.heap HA7.out (by simp)
       generalize w7.setCell ⟨w.heap.size+1,2,none⟩ (.slice (some ⟨w7.heap.size,0,none⟩) 2 2)=wc at oc hBc hsc hAc⊢
       have e1:EV wc (fun b=>w.heap.size+1 < b) t _:=EV.kept oc (fun k hk hB=>by rw [List.mem_singleton.1 hk] at hB;exact absurd hB (by omega)) (fun _ h=>h) t _ (EV.quiet HVS.out.1 HO7.out)
       have e2:∀ e j,r2=.ok (e,j)→EV wc (fun b=>w.heap.size+1 < b) e _:=fun e j he=>EV.kept oc (fun k hk hB=>by rw [List.mem_singleton.1 hk] at hB;exact absurd hB (by omega)) (fun _ h=>h) e _ (EV.quiet (HVS.out.2 e j he) HO7.out)
       have e3:∀ e j,r2=.ok (e,j)→EsV (wc.alloc (.cells #[.int .i64 k',.int .i64 n',.string s',.slice a' l' c',.int .i64 p',.int .i64 k2,.int .i64 n2,.string s2,.slice a2 l2 c2,.int .i64 p2] 72)) (fun b=>w.heap.size+1 < b) (.slice (some ⟨w7.heap.size,0,none⟩) 2 2) [t,e]:=fun e j he=>by
        have:=EsV.made2 e1 (e2 e j he) (by omega)
        rw [hsc] at this
        exact this
       have od:Only [w.heap.size+1] w7 (wc.alloc (.cells #[.int .i64 k',.int .i64 n',.string s',.slice a' l' c',.int .i64 p',.int .i64 k2,.int .i64 n2,.string s2,.slice a2 l2 c2,.int .i64 p2] 72)):=oc.alloc _
       have hBd:=heap_old (.cells #[.int .i64 k',.int .i64 n',.string s',.slice a' l' c',.int .i64 p',.int .i64 k2,.int .i64 n2,.string s2,.slice a2 l2 c2,.int .i64 p2] 72) hBc
       have hAd:=heap_old (.cells #[.int .i64 k',.int .i64 n',.string s',.slice a' l' c',.int .i64 p',.int .i64 k2,.int .i64 n2,.string s2,.slice a2 l2 c2,.int .i64 p2] 72) hAc
       generalize wc.alloc (.cells #[.int .i64 k',.int .i64 n',.string s',.slice a' l' c',.int .i64 p',.int .i64 k2,.int .i64 n2,.string s2,.slice a2 l2 c2,.int .i64 p2] 72)=we at e3 od hBd hAd⊢
       have HE3:=Hd e3
       have HOe:=Hd ((HO6.out.trans HO7.out (by simp)).trans (T:=[w.heap.size+1]) od (fun k hk=>.inr (by rw [List.mem_singleton.1 hk];omega)))
       clear e1 e2 e3 oc hBc hsc hAc od x0 x1 x2 x3 x4 y0 y1 y2 y3 y4 b2 gb2 lB nB lX nX lY nY HB7 HA7
       have oD:Only [] we we.drew:=(Only.refl [] we).drew
       have hBd:=oD.heap hBd (by simp)
       have hAd:=oD.heap hAd (by simp)
       refine wp_region_held_drew (S:=fun w'=>w'.cell? ⟨w.heap.size+1,0,none⟩=some (.int .i64 5)∧w'.cell? ⟨w.heap.size+1,1,none⟩=some (.string ⟨#[]⟩)∧w'.cell? ⟨w.heap.size+1,2,none⟩=some (.slice (some ⟨w7.heap.size,0,none⟩) 2 2)∧w'.cell? ⟨w.heap.size+1,3,none⟩=some (.int .i64 0)∧w'.cell? ⟨w.heap.size+1,4,none⟩=some (.slice none 0 0)∧w'.cell? ⟨w.heap.size+1,5,none⟩=some (.slice none 0 0)∧w'.cell? ⟨w.heap.size+1,6,none⟩=some (.int .i64 (ps:Int))) (by kernel_rfl) ⟨cell_at 0 hBd,cell_at 1 hBd,cell_at 2 hBd,cell_at 3 hBd,cell_at 4 hBd,cell_at 5 hBd,cell_at 6 hBd⟩ (fun hH=>?_)
       have HBd:=Hd hBd
       have HAd:=Hd hAd
       have HOd:=Hd oD
       clear hBd hAd oD
       generalize we.drew=wd at HBd HAd HOd hH⊢
       refine tk 0 hH ?_
       refine tk 1 hH ?_
       refine tk 2 hH ?_
       refine rd 3 (fun K hK=>?_)
       go_simp
       refine (HKC.out _ (HOe.out.trans HOd.out (by simp))).mono ?_
       rintro e w' ⟨rfl,rfl⟩
       refine hK.out _ _ hH (fun hH=>?_)
       clear hK K
       have s0:wd.cell? ⟨w.heap.size,0,none⟩=some (.int .i64 0):=cell_at 0 HAd.out
       have s1:wd.cell? ⟨w.heap.size,1,none⟩=some (.string ⟨#[]⟩):=cell_at 1 HAd.out
       have s2:wd.cell? ⟨w.heap.size,2,none⟩=some (.slice none 0 0):=cell_at 2 HAd.out
       have s3:wd.cell? ⟨w.heap.size,3,none⟩=some (.int .i64 0):=cell_at 3 HAd.out
       have s4:wd.cell? ⟨w.heap.size,4,none⟩=some (.slice none 0 0):=cell_at 4 HAd.out
       have s5:wd.cell? ⟨w.heap.size,5,none⟩=some (.slice none 0 0):=cell_at 5 HAd.out
       have s6:wd.cell? ⟨w.heap.size,6,none⟩=some (.int .i64 0):=cell_at 6 HAd.out
       have gs0:=free_at 0 HAd.out
       have gs1:=free_at 1 HAd.out
       have gs2:=free_at 2 HAd.out
       have gs3:=free_at 3 HAd.out
       have gs4:=free_at 4 HAd.out
       have gs5:=free_at 5 HAd.out
       have gs6:=free_at 6 HAd.out
       clear hH
       refine rd 4 (fun K hK=>?_)
       go_simp
       have oz:Only [w.heap.size] wd (((((((wd.setCell ⟨w.heap.size,0,none⟩ (.int .i64 5)).setCell ⟨w.heap.size,1,none⟩ (.string ⟨#[]⟩)).setCell ⟨w.heap.size,2,none⟩ (.slice (some ⟨w7.heap.size,0,none⟩) 2 2)).setCell ⟨w.heap.size,3,none⟩ (.int .i64 0)).setCell ⟨w.heap.size,4,none⟩ (.slice none 0 0)).setCell ⟨w.heap.size,5,none⟩ (.slice none 0 0)).setCell ⟨w.heap.size,6,none⟩ (.int .i64 (ps:Int))):=
        (((((((Only.refl _ _).setCell (.inl (by simp)) _).setCell (.inl (by simp)) _).setCell (.inl (by simp)) _).setCell (.inl (by simp)) _).setCell (.inl (by simp)) _).setCell (.inl (by simp)) _).setCell (.inl (by simp)) _
       have hz:=seven_set HAd.out (.int .i64 5) (.string ⟨#[]⟩) (.slice (some ⟨w7.heap.size,0,none⟩) 2 2) (.int .i64 0) (.slice none 0 0) (.slice none 0 0) (.int .i64 (ps:Int))
       have hBz:=oz.heap HBd.out (by simp)
       generalize ((((((wd.setCell ⟨w.heap.size,0,none⟩ (.int .i64 5)).setCell ⟨w.heap.size,1,none⟩ (.string ⟨#[]⟩)).setCell ⟨w.heap.size,2,none⟩ (.slice (some ⟨w7.heap.size,0,none⟩) 2 2)).setCell ⟨w.heap.size,3,none⟩ (.int .i64 0)).setCell ⟨w.heap.size,4,none⟩ (.slice none 0 0)).setCell ⟨w.heap.size,5,none⟩ (.slice none 0 0)).setCell ⟨w.heap.size,6,none⟩ (.int .i64 (ps:Int))=wz at oz hz hBz⊢
       have HOz:=Hd oz
       have HZ:=Hd hz
       refine hK.out _ _ ⟨cell_at 0 hBz,cell_at 1 hBz,cell_at 2 hBz,cell_at 3 hBz,cell_at 4 hBz,cell_at 5 hBz,cell_at 6 hBz⟩ (fun hH=>?_)
       clear hK K hz hBz oz s0 s1 s2 s3 s4 s5 s6 gs0 gs1 gs2 gs3 gs4 gs5 gs6
       refine tk 5 hH ?_
       refine wpAnyH_done (by kernel_rfl) ?_ _
       clear hH
       go_wp2_with fail
       (try simp only [Exit.inBlock,Exit.then])
       refine bodyPost_ret (res_cell _ _ w.heap.size _ _ _ _ _ _ _ (.int .i64 zc) rfl rfl HZ.out) rfl ?_
       rw [HRR.out]
       refine ⟨5,0,ps,⟨#[]⟩,some ⟨w7.heap.size,0,none⟩,none,none,2,0,0,2,0,0,by rw [HCZ.out],fun s j hs=>?_,?_⟩
       ·obtain ⟨e,a3,he,rfl⟩:=closeS_ok hs
        refine SV.kept (S:=[w.heap.size]) ((HOd.out.mono (T:=[w.heap.size]) (by simp)).trans HOz.out (fun k hk=>.inl hk)) (fun k hk hB=>?_) (fun b hb=>?_) _ _ (SV.mk' (w:=we) (B:=fun b=>w.heap.size+1 < b) (nm:=[]) (HE3.out e a3 he) (SsV.nil _ _) (SsV.nil _ _))
        ·rw [List.mem_singleton.1 hk] at hB
         exact absurd hB (by omega)
        ·show w.heap.size≤b
         have:w.heap.size+1 < b:=hb
         omega
       ·exact (HOe.out.trans HOd.out (by simp)).trans (T:=[w.heap.size]) HOz.out (fun k hk=>.inr (by rw [List.mem_singleton.1 hk];exact Nat.le_refl _))
    ·skip
     obtain ⟨r2,hr2⟩:∃ r2,r2=exprT ts (a+1) dp:=⟨_,rfl⟩
     have ha1:a+1 < ts.length:=isT_lt H.out.ends HPO.out d45
     have hRR:R=closeS ts r2 [59] (fun e=>.mk 4 [] [t,e] 0 [] [] ps):=by
      rw [HR.out.1,cellR_of HRr.out.symm,← HR.out.2,← hr2]
      (rw [if_pos (.inr (.inr d45)),if_neg (show ¬ isT ts a [61]=true from by rw [show isT ts a [61]=false from d61];decide),if_neg (show ¬ isT ts a [43,61]=true from by rw [show isT ts a [43,61]=false from d43];decide)])
     have KE:=fun (W:World) (ho:Only [] w W)=>rexpr_any (H.out.quiet ho) (p:=.ok (a+1)) ha1 dp hdp
     rw [show exprP ts (.ok (a+1)) dp=r2 from hr2.symm,show zP (.ok (a+1))=(a:Int)+1 from by show ((a+1:Nat):Int)=_;omega] at KE
     have hpo2:PosOk ts (nextP r2):=by rw [hr2];exact exprP_ok H.out.ends (p:=.ok (a+1)) ha1 dp
     have KC:=fun (W:World) (ho:Only [] w W)=>reat_any (H.out.quiet ho) (nextP r2) hpo2 ⟨#[59]⟩
     rw [← zR_next] at KC
     have hcz:zR (closeS ts r2 [59] (fun e=>.mk 4 [] [t,e] 0 [] [] ps))=zP (eatP ts (nextP r2) (⟨#[59]⟩:ByteArray).data.toList):=closeS_z ts r2 [59] _
     generalize zP (eatP ts (nextP r2) (⟨#[59]⟩:ByteArray).data.toList)=zc at KC hcz
     have HCZ:=Hd hcz
     have HRR:=Hd hRR
     have HKE:=Hd KE
     have HKC:=Hd KC
     have gb0:=free_at 0 HB5.out
     have b0:w5.cell? ⟨w.heap.size+1,0,none⟩=some (.int .i64 0):=cell_at 0 HB5.out
     clear hRR KE KC hpo2 hr2 hcz
     go_wp2_with fail
     have ob:Only [w.heap.size+1] w5 (w5.setCell ⟨w.heap.size+1,0,none⟩ (.int .i64 4)):=(Only.refl _ _).setCell (.inl (by simp)) _
     have hB6:=heap_cell (i:=0) (.int .i64 4) HB5.out
     generalize w5.setCell ⟨w.heap.size+1,0,none⟩ (.int .i64 4)=wb at ob hB6⊢
     have owb:Only [] w wb:=HO5.out.trans (T:=[w.heap.size+1]) ob (fun k hk=>.inr (by rw [List.mem_singleton.1 hk];omega))
     refine (HKE.out wb owb).mono ?_
     rintro e w6 ⟨k2,n2,s2,a2,l2,c2,p2,rfl,hv2,o6⟩
     have hA6:=o6.heap (ob.heap HA5.out (by simp)) (by simp)
     have hB6':=o6.heap hB6 (by simp)
     have hX6:=o6.heap (ob.heap HX5.out (by simp;omega)) (by simp)
     have szb:=ob.size
     have sz5:=O5.out.size
     have sz6:=o6.size
     have HVt6:EV w6 (fun b=>w.heap.size+1 < b) t _:=EV.quiet (EV.kept ob (fun k hk hB=>by rw [List.mem_singleton.1 hk] at hB;exact absurd hB (by omega)) (fun _ h=>h) t _ (EV.quiet (EV.kept (Only.refl [] w4) (by simp) (fun b hb=>show w.heap.size+1 < b from Nat.lt_of_lt_of_le hsz3 hb) t _ HVt.out) O5.out)) o6
     have HV2:∀ e j,r2=.ok (e,j)→EV w6 (fun b=>w.heap.size+1 < b) e _:=fun e j he=>EV.kept (Only.refl [] w6) (by simp) (fun b hb=>by have:wb.heap.size≤b:=hb;have:=O5.out.size;omega) e _ (hv2 e j he)
     have HVS:=Hd (And.intro HVt6 HV2)
     have HO6:=Hd (owb.trans o6 (by simp))
     clear HVt6 HV2 hv2 ob hB6 owb o6
     go_upto_region 20 with (fail)
     have o7:Only [] w6 (w6.alloc (.cells #[.int .i64 k2,.int .i64 n2,.string s2,.slice a2 l2 c2,.int .i64 p2] 72)):=(Only.refl _ _).alloc _
     have hY7:=heap_new w6 (.cells #[.int .i64 k2,.int .i64 n2,.string s2,.slice a2 l2 c2,.int .i64 p2] 72)
     have hs7:(w6.alloc (.cells #[.int .i64 k2,.int .i64 n2,.string s2,.slice a2 l2 c2,.int .i64 p2] 72)).heap.size=w6.heap.size+1:=Array.size_push _
     generalize w6.alloc (.cells #[.int .i64 k2,.int .i64 n2,.string s2,.slice a2 l2 c2,.int .i64 p2] 72)=w7 at o7 hY7 hs7⊢
     have hA7:=o7.heap hA6 (by simp)
     have hB7:=o7.heap hB6' (by simp)
     have hX7:=o7.heap hX6 (by simp)
     have x0:w7.cell? ⟨w4.heap.size,0,none⟩=some (.int .i64 k'):=cell_at 0 hX7
     have x1:w7.cell? ⟨w4.heap.size,1,none⟩=some (.int .i64 n'):=cell_at 1 hX7
     have x2:w7.cell? ⟨w4.heap.size,2,none⟩=some (.string s'):=cell_at 2 hX7
     have x3:w7.cell? ⟨w4.heap.size,3,none⟩=some (.slice a' l' c'):=cell_at 3 hX7
     have x4:w7.cell? ⟨w4.heap.size,4,none⟩=some (.int .i64 p'):=cell_at 4 hX7
     have y0:w7.cell? ⟨w6.heap.size,0,none⟩=some (.int .i64 k2):=cell_at 0 hY7
     have y1:w7.cell? ⟨w6.heap.size,1,none⟩=some (.int .i64 n2):=cell_at 1 hY7
     have y2:w7.cell? ⟨w6.heap.size,2,none⟩=some (.string s2):=cell_at 2 hY7
     have y3:w7.cell? ⟨w6.heap.size,3,none⟩=some (.slice a2 l2 c2):=cell_at 3 hY7
     have y4:w7.cell? ⟨w6.heap.size,4,none⟩=some (.int .i64 p2):=cell_at 4 hY7
     have b2:w7.cell? ⟨w.heap.size+1,2,none⟩=some (.slice none 0 0):=cell_at 2 hB7
     have gb2:=free_at 2 hB7
     have lB:w.heap.size+1 < w7.heap.size:=by omega
     have nB:w.heap.size+1≠w7.heap.size:=by omega
     have lX:w4.heap.size < w7.heap.size:=(Array.getElem?_eq_some_iff.1 hX7).1
     have nX:w4.heap.size≠w7.heap.size:=by omega
     have lY:w6.heap.size < w7.heap.size:=by omega
     have nY:w6.heap.size≠w7.heap.size:=by omega
     have HA7:=Hd hA7
     have HB7:=Hd hB7
     have HO7:=Hd o7
     clear hA7 hB7 hX7 hY7 o7 hA6 hB6' hX6 hs7
     go_upto_region 21 with (fail)
     have oc:Only [w.heap.size+1] w7 (w7.setCell ⟨w.heap.size+1,2,none⟩ (.slice (some ⟨w7.heap.size,0,none⟩) 2 2)):=(Only.refl _ _).setCell (.inl (by simp)) _
     have hBc:=heap_cell (i:=2) (.slice (some ⟨w7.heap.size,0,none⟩) 2 2) HB7.out
     have hsc:(w7.setCell ⟨w.heap.size+1,2,none⟩ (.slice (some ⟨w7.heap.size,0,none⟩) 2 2)).heap.size=w7.heap.size:=by simp
     have hAc:=oc.heap HA7.out (by simp)
     generalize w7.setCell ⟨w.heap.size+1,2,none⟩ (.slice (some ⟨w7.heap.size,0,none⟩) 2 2)=wc at oc hBc hsc hAc⊢
     have e1:EV wc (fun b=>w.heap.size+1 < b) t _:=EV.kept oc (fun k hk hB=>by rw [List.mem_singleton.1 hk] at hB;exact absurd hB (by omega)) (fun _ h=>h) t _ (EV.quiet HVS.out.1 HO7.out)
     have e2:∀ e j,r2=.ok (e,j)→EV wc (fun b=>w.heap.size+1 < b) e _:=fun e j he=>EV.kept oc (fun k hk hB=>by rw [List.mem_singleton.1 hk] at hB;exact absurd hB (by omega)) (fun _ h=>h) e _ (EV.quiet (HVS.out.2 e j he) HO7.out)
     have e3:∀ e j,r2=.ok (e,j)→EsV (wc.alloc (.cells #[.int .i64 k',.int .i64 n',.string s',.slice a' l' c',.int .i64 p',.int .i64 k2,.int .i64 n2,.string s2,.slice a2 l2 c2,.int .i64 p2] 72)) (fun b=>w.heap.size+1 < b) (.slice (some ⟨w7.heap.size,0,none⟩) 2 2) [t,e]:=fun e j he=>by
      have:=EsV.made2 e1 (e2 e j he) (by omega)
      rw [hsc] at this
      exact this
     have od:Only [w.heap.size+1] w7 (wc.alloc (.cells #[.int .i64 k',.int .i64 n',.string s',.slice a' l' c',.int .i64 p',.int .i64 k2,.int .i64 n2,.string s2,.slice a2 l2 c2,.int .i64 p2] 72)):=oc.alloc _
     have hBd:=heap_old (.cells #[.int .i64 k',.int .i64 n',.string s',.slice a' l' c',.int .i64 p',.int .i64 k2,.int .i64 n2,.string s2,.slice a2 l2 c2,.int .i64 p2] 72) hBc
     have hAd:=heap_old (.cells #[.int .i64 k',.int .i64 n',.string s',.slice a' l' c',.int .i64 p',.int .i64 k2,.int .i64 n2,.string s2,.slice a2 l2 c2,.int .i64 p2] 72) hAc
     generalize wc.alloc (.cells #[.int .i64 k',.int .i64 n',.string s',.slice a' l' c',.int .i64 p',.int .i64 k2,.int .i64 n2,.string s2,.slice a2 l2 c2,.int .i64 p2] 72)=we at e3 od hBd hAd⊢
     have HE3:=Hd e3
     have HOe:=Hd ((HO6.out.trans HO7.out (by simp)).trans (T:=[w.heap.size+1]) od (fun k hk=>.inr (by rw [List.mem_singleton.1 hk];omega)))
     clear e1 e2 e3 oc hBc hsc hAc od x0 x1 x2 x3 x4 y0 y1 y2 y3 y4 b2 gb2 lB nB lX nX lY nY HB7 HA7
     have oD:Only [] we we.drew:=(Only.refl [] we).drew
     have hBd:=oD.heap hBd (by simp)
     have hAd:=oD.heap hAd (by simp)
     refine wp_region_held_drew (S:=fun w'=>w'.cell? ⟨w.heap.size+1,0,none⟩=some (.int .i64 4)∧w'.cell? ⟨w.heap.size+1,1,none⟩=some (.string ⟨#[]⟩)∧w'.cell? ⟨w.heap.size+1,2,none⟩=some (.slice (some ⟨w7.heap.size,0,none⟩) 2 2)∧w'.cell? ⟨w.heap.size+1,3,none⟩=some (.int .i64 0)∧w'.cell? ⟨w.heap.size+1,4,none⟩=some (.slice none 0 0)∧w'.cell? ⟨w.heap.size+1,5,none⟩=some (.slice none 0 0)∧w'.cell? ⟨w.heap.size+1,6,none⟩=some (.int .i64 (ps:Int))) (by kernel_rfl) ⟨cell_at 0 hBd,cell_at 1 hBd,cell_at 2 hBd,cell_at 3 hBd,cell_at 4 hBd,cell_at 5 hBd,cell_at 6 hBd⟩ (fun hH=>?_)
     have HBd:=Hd hBd
     have HAd:=Hd hAd
     have HOd:=Hd oD
     clear hBd hAd oD
     generalize we.drew=wd at HBd HAd HOd hH⊢
     refine tk 0 hH ?_
     refine tk 1 hH ?_
     refine tk 2 hH ?_
     refine rd 3 (fun K hK=>?_)
     go_simp
     refine (HKC.out _ (HOe.out.trans HOd.out (by simp))).mono ?_
     rintro e w' ⟨rfl,rfl⟩
     refine hK.out _ _ hH (fun hH=>?_)
     clear hK K
     have s0:wd.cell? ⟨w.heap.size,0,none⟩=some (.int .i64 0):=cell_at 0 HAd.out
     have s1:wd.cell? ⟨w.heap.size,1,none⟩=some (.string ⟨#[]⟩):=cell_at 1 HAd.out
     have s2:wd.cell? ⟨w.heap.size,2,none⟩=some (.slice none 0 0):=cell_at 2 HAd.out
     have s3:wd.cell? ⟨w.heap.size,3,none⟩=some (.int .i64 0):=cell_at 3 HAd.out
     have s4:wd.cell? ⟨w.heap.size,4,none⟩=some (.slice none 0 0):=cell_at 4 HAd.out
     have s5:wd.cell? ⟨w.heap.size,5,none⟩=some (.slice none 0 0):=cell_at 5 HAd.out
     have s6:wd.cell? ⟨w.heap.size,6,none⟩=some (.int .i64 0):=cell_at 6 HAd.out
     have gs0:=free_at 0 HAd.out
     have gs1:=free_at 1 HAd.out
     have gs2:=free_at 2 HAd.out
     have gs3:=free_at 3 HAd.out
     have gs4:=free_at 4 HAd.out
     have gs5:=free_at 5 HAd.out
     have gs6:=free_at 6 HAd.out
     clear hH
     refine rd 4 (fun K hK=>?_)
     go_simp
     have oz:Only [w.heap.size] wd (((((((wd.setCell ⟨w.heap.size,0,none⟩ (.int .i64 4)).setCell ⟨w.heap.size,1,none⟩ (.string ⟨#[]⟩)).setCell ⟨w.heap.size,2,none⟩ (.slice (some ⟨w7.heap.size,0,none⟩) 2 2)).setCell ⟨w.heap.size,3,none⟩ (.int .i64 0)).setCell ⟨w.heap.size,4,none⟩ (.slice none 0 0)).setCell ⟨w.heap.size,5,none⟩ (.slice none 0 0)).setCell ⟨w.heap.size,6,none⟩ (.int .i64 (ps:Int))):=
      (((((((Only.refl _ _).setCell (.inl (by simp)) _).setCell (.inl (by simp)) _).setCell (.inl (by simp)) _).setCell (.inl (by simp)) _).setCell (.inl (by simp)) _).setCell (.inl (by simp)) _).setCell (.inl (by simp)) _
     have hz:=seven_set HAd.out (.int .i64 4) (.string ⟨#[]⟩) (.slice (some ⟨w7.heap.size,0,none⟩) 2 2) (.int .i64 0) (.slice none 0 0) (.slice none 0 0) (.int .i64 (ps:Int))
     have hBz:=oz.heap HBd.out (by simp)
     generalize ((((((wd.setCell ⟨w.heap.size,0,none⟩ (.int .i64 4)).setCell ⟨w.heap.size,1,none⟩ (.string ⟨#[]⟩)).setCell ⟨w.heap.size,2,none⟩ (.slice (some ⟨w7.heap.size,0,none⟩) 2 2)).setCell ⟨w.heap.size,3,none⟩ (.int .i64 0)).setCell ⟨w.heap.size,4,none⟩ (.slice none 0 0)).setCell ⟨w.heap.size,5,none⟩ (.slice none 0 0)).setCell ⟨w.heap.size,6,none⟩ (.int .i64 (ps:Int))=wz at oz hz hBz⊢
     have HOz:=Hd oz
     have HZ:=Hd hz
     refine hK.out _ _ ⟨cell_at 0 hBz,cell_at 1 hBz,cell_at 2 hBz,cell_at 3 hBz,cell_at 4 hBz,cell_at 5 hBz,cell_at 6 hBz⟩ (fun hH=>?_)
     clear hK K hz hBz oz s0 s1 s2 s3 s4 s5 s6 gs0 gs1 gs2 gs3 gs4 gs5 gs6
     refine tk 5 hH ?_
     refine wpAnyH_done (by kernel_rfl) ?_ _
     clear hH
     go_wp2_with fail
     (try simp only [Exit.inBlock,Exit.then])
     refine bodyPost_ret (res_cell _ _ w.heap.size _ _ _ _ _ _ _ (.int .i64 zc) rfl rfl HZ.out) rfl ?_
     rw [HRR.out]
     refine ⟨4,0,ps,⟨#[]⟩,some ⟨w7.heap.size,0,none⟩,none,none,2,0,0,2,0,0,by rw [HCZ.out],fun s j hs=>?_,?_⟩
     ·obtain ⟨e,a3,he,rfl⟩:=closeS_ok hs
      refine SV.kept (S:=[w.heap.size]) ((HOd.out.mono (T:=[w.heap.size]) (by simp)).trans HOz.out (fun k hk=>.inl hk)) (fun k hk hB=>?_) (fun b hb=>?_) _ _ (SV.mk' (w:=we) (B:=fun b=>w.heap.size+1 < b) (nm:=[]) (HE3.out e a3 he) (SsV.nil _ _) (SsV.nil _ _))
      ·rw [List.mem_singleton.1 hk] at hB
       exact absurd hB (by omega)
      ·show w.heap.size≤b
       have:w.heap.size+1 < b:=hb
       omega
     ·exact (HOe.out.trans HOd.out (by simp)).trans (T:=[w.heap.size]) HOz.out (fun k hk=>.inr (by rw [List.mem_singleton.1 hk];exact Nat.le_refl _))
   ·skip
    obtain ⟨r2,hr2⟩:∃ r2,r2=exprT ts (a+1) dp:=⟨_,rfl⟩
    have ha1:a+1 < ts.length:=isT_lt H.out.ends HPO.out d43
    have hRR:R=closeS ts r2 [59] (fun e=>.mk 3 [] [t,e] 0 [] [] ps):=by
     rw [HR.out.1,cellR_of HRr.out.symm,← HR.out.2,← hr2]
     (rw [if_pos (.inr (.inl d43)),if_neg (show ¬ isT ts a [61]=true from by rw [show isT ts a [61]=false from d61];decide),if_pos (show isT ts a [43,61]=true from d43)])
    have KE:=fun (W:World) (ho:Only [] w W)=>rexpr_any (H.out.quiet ho) (p:=.ok (a+1)) ha1 dp hdp
    rw [show exprP ts (.ok (a+1)) dp=r2 from hr2.symm,show zP (.ok (a+1))=(a:Int)+1 from by show ((a+1:Nat):Int)=_;omega] at KE
    have hpo2:PosOk ts (nextP r2):=by rw [hr2];exact exprP_ok H.out.ends (p:=.ok (a+1)) ha1 dp
    have KC:=fun (W:World) (ho:Only [] w W)=>reat_any (H.out.quiet ho) (nextP r2) hpo2 ⟨#[59]⟩
    rw [← zR_next] at KC
    have hcz:zR (closeS ts r2 [59] (fun e=>.mk 3 [] [t,e] 0 [] [] ps))=zP (eatP ts (nextP r2) (⟨#[59]⟩:ByteArray).data.toList):=closeS_z ts r2 [59] _
    generalize zP (eatP ts (nextP r2) (⟨#[59]⟩:ByteArray).data.toList)=zc at KC hcz
    have HCZ:=Hd hcz
    have HRR:=Hd hRR
    have HKE:=Hd KE
    have HKC:=Hd KC
    have gb0:=free_at 0 HB5.out
    have b0:w5.cell? ⟨w.heap.size+1,0,none⟩=some (.int .i64 0):=cell_at 0 HB5.out
    clear hRR KE KC hpo2 hr2 hcz
    go_wp2_with fail
    have ob:Only [w.heap.size+1] w5 (w5.setCell ⟨w.heap.size+1,0,none⟩ (.int .i64 3)):=(Only.refl _ _).setCell (.inl (by simp)) _
    have hB6:=heap_cell (i:=0) (.int .i64 3) HB5.out
    generalize w5.setCell ⟨w.heap.size+1,0,none⟩ (.int .i64 3)=wb at ob hB6⊢
    have owb:Only [] w wb:=HO5.out.trans (T:=[w.heap.size+1]) ob (fun k hk=>.inr (by rw [List.mem_singleton.1 hk];omega))
    refine (HKE.out wb owb).mono ?_
    rintro e w6 ⟨k2,n2,s2,a2,l2,c2,p2,rfl,hv2,o6⟩
    have hA6:=o6.heap (ob.heap HA5.out (by simp)) (by simp)
    have hB6':=o6.heap hB6 (by simp)
    have hX6:=o6.heap (ob.heap HX5.out (by simp;omega)) (by simp)
    have szb:=ob.size
    have sz5:=O5.out.size
    have sz6:=o6.size
    have HVt6:EV w6 (fun b=>w.heap.size+1 < b) t _:=EV.quiet (EV.kept ob (fun k hk hB=>by rw [List.mem_singleton.1 hk] at hB;exact absurd hB (by omega)) (fun _ h=>h) t _ (EV.quiet (EV.kept (Only.refl [] w4) (by simp) (fun b hb=>show w.heap.size+1 < b from Nat.lt_of_lt_of_le hsz3 hb) t _ HVt.out) O5.out)) o6
    have HV2:∀ e j,r2=.ok (e,j)→EV w6 (fun b=>w.heap.size+1 < b) e _:=fun e j he=>EV.kept (Only.refl [] w6) (by simp) (fun b hb=>by have:wb.heap.size≤b:=hb;have:=O5.out.size;omega) e _ (hv2 e j he)
    have HVS:=Hd (And.intro HVt6 HV2)
    have HO6:=Hd (owb.trans o6 (by simp))
    clear HVt6 HV2 hv2 ob hB6 owb o6
    go_upto_region 20 with (fail)
    have o7:Only [] w6 (w6.alloc (.cells #[.int .i64 k2,.int .i64 n2,.string s2,.slice a2 l2 c2,.int .i64 p2] 72)):=(Only.refl _ _).alloc _
    have hY7:=heap_new w6 (.cells #[.int .i64 k2,.int .i64 n2,.string s2,.slice a2 l2 c2,.int .i64 p2] 72)
    have hs7:(w6.alloc (.cells #[.int .i64 k2,.int .i64 n2,.string s2,.slice a2 l2 c2,.int .i64 p2] 72)).heap.size=w6.heap.size+1:=Array.size_push _
    generalize w6.alloc (.cells #[.int .i64 k2,.int .i64 n2,.string s2,.slice a2 l2 c2,.int .i64 p2] 72)=w7 at o7 hY7 hs7⊢
    have hA7:=o7.heap hA6 (by simp)
    have hB7:=o7.heap hB6' (by simp)
    have hX7:=o7.heap hX6 (by simp)
    have x0:w7.cell? ⟨w4.heap.size,0,none⟩=some (.int .i64 k'):=cell_at 0 hX7
    have x1:w7.cell? ⟨w4.heap.size,1,none⟩=some (.int .i64 n'):=cell_at 1 hX7
    have x2:w7.cell? ⟨w4.heap.size,2,none⟩=some (.string s'):=cell_at 2 hX7
    have x3:w7.cell? ⟨w4.heap.size,3,none⟩=some (.slice a' l' c'):=cell_at 3 hX7
    have x4:w7.cell? ⟨w4.heap.size,4,none⟩=some (.int .i64 p'):=cell_at 4 hX7
    have y0:w7.cell? ⟨w6.heap.size,0,none⟩=some (.int .i64 k2):=cell_at 0 hY7
    have y1:w7.cell? ⟨w6.heap.size,1,none⟩=some (.int .i64 n2):=cell_at 1 hY7
    have y2:w7.cell? ⟨w6.heap.size,2,none⟩=some (.string s2):=cell_at 2 hY7
    have y3:w7.cell? ⟨w6.heap.size,3,none⟩=some (.slice a2 l2 c2):=cell_at 3 hY7
    have y4:w7.cell? ⟨w6.heap.size,4,none⟩=some (.int .i64 p2):=cell_at 4 hY7
    have b2:w7.cell? ⟨w.heap.size+1,2,none⟩=some (.slice none 0 0):=cell_at 2 hB7
    have gb2:=free_at 2 hB7
    have lB:w.heap.size+1 < w7.heap.size:=by omega
    have nB:w.heap.size+1≠w7.heap.size:=by omega
    have lX:w4.heap.size < w7.heap.size:=(Array.getElem?_eq_some_iff.1 hX7).1
    have nX:w4.heap.size≠w7.heap.size:=by omega
    have lY:w6.heap.size < w7.heap.size:=by omega
    have nY:w6.heap.size≠w7.heap.size:=by omega
    have HA7:=Hd hA7
    have HB7:=Hd hB7
    have HO7:=Hd o7
    clear hA7 hB7 hX7 hY7 o7 hA6 hB6' hX6 hs7
    go_upto_region 21 with (fail)
    have oc:Only [w.heap.size+1] w7 (w7.setCell ⟨w.heap.size+1,2,none⟩ (.slice (some ⟨w7.heap.size,0,none⟩) 2 2)):=(Only.refl _ _).setCell (.inl (by simp)) _
    have hBc:=heap_cell (i:=2) (.slice (some ⟨w7.heap.size,0,none⟩) 2 2) HB7.out
    have hsc:(w7.setCell ⟨w.heap.size+1,2,none⟩ (.slice (some ⟨w7.heap.size,0,none⟩) 2 2)).heap.size=w7.heap.size:=by simp
    have hAc:=oc.heap HA7.out (by simp)
    generalize w7.setCell ⟨w.heap.size+1,2,none⟩ (.slice (some ⟨w7.heap.size,0,none⟩) 2 2)=wc at oc hBc hsc hAc⊢
    have e1:EV wc (fun b=>w.heap.size+1 < b) t _:=EV.kept oc (fun k hk hB=>by rw [List.mem_singleton.1 hk] at hB;exact absurd hB (by omega)) (fun _ h=>h) t _ (EV.quiet HVS.out.1 HO7.out)
    have e2:∀ e j,r2=.ok (e,j)→EV wc (fun b=>w.heap.size+1 < b) e _:=fun e j he=>EV.kept oc (fun k hk hB=>by rw [List.mem_singleton.1 hk] at hB;exact absurd hB (by omega)) (fun _ h=>h) e _ (EV.quiet (HVS.out.2 e j he) HO7.out)
    have e3:∀ e j,r2=.ok (e,j)→EsV (wc.alloc (.cells #[.int .i64 k',.int .i64 n',.string s',.slice a' l' c',.int .i64 p',.int .i64 k2,.int .i64 n2,.string s2,.slice a2 l2 c2,.int .i64 p2] 72)) (fun b=>w.heap.size+1 < b) (.slice (some ⟨w7.heap.size,0,none⟩) 2 2) [t,e]:=fun e j he=>by
     have:=EsV.made2 e1 (e2 e j he) (by omega)
     rw [hsc] at this
     exact this
    have od:Only [w.heap.size+1] w7 (wc.alloc (.cells #[.int .i64 k',.int .i64 n',.string s',.slice a' l' c',.int .i64 p',.int .i64 k2,.int .i64 n2,.string s2,.slice a2 l2 c2,.int .i64 p2] 72)):=oc.alloc _
    have hBd:=heap_old (.cells #[.int .i64 k',.int .i64 n',.string s',.slice a' l' c',.int .i64 p',.int .i64 k2,.int .i64 n2,.string s2,.slice a2 l2 c2,.int .i64 p2] 72) hBc
    have hAd:=heap_old (.cells #[.int .i64 k',.int .i64 n',.string s',.slice a' l' c',.int .i64 p',.int .i64 k2,.int .i64 n2,.string s2,.slice a2 l2 c2,.int .i64 p2] 72) hAc
    generalize wc.alloc (.cells #[.int .i64 k',.int .i64 n',.string s',.slice a' l' c',.int .i64 p',.int .i64 k2,.int .i64 n2,.string s2,.slice a2 l2 c2,.int .i64 p2] 72)=we at e3 od hBd hAd⊢
    have HE3:=Hd e3
    have HOe:=Hd ((HO6.out.trans HO7.out (by simp)).trans (T:=[w.heap.size+1]) od (fun k hk=>.inr (by rw [List.mem_singleton.1 hk];omega)))
    clear e1 e2 e3 oc hBc hsc hAc od x0 x1 x2 x3 x4 y0 y1 y2 y3 y4 b2 gb2 lB nB lX nX lY nY HB7 HA7
    have oD:Only [] we we.drew:=(Only.refl [] we).drew
    have hBd:=oD.heap hBd (by simp)
    have hAd:=oD.heap hAd (by simp)
    refine wp_region_held_drew (S:=fun w'=>w'.cell? ⟨w.heap.size+1,0,none⟩=some (.int .i64 3)∧w'.cell? ⟨w.heap.size+1,1,none⟩=some (.string ⟨#[]⟩)∧w'.cell? ⟨w.heap.size+1,2,none⟩=some (.slice (some ⟨w7.heap.size,0,none⟩) 2 2)∧w'.cell? ⟨w.heap.size+1,3,none⟩=some (.int .i64 0)∧w'.cell? ⟨w.heap.size+1,4,none⟩=some (.slice none 0 0)∧w'.cell? ⟨w.heap.size+1,5,none⟩=some (.slice none 0 0)∧w'.cell? ⟨w.heap.size+1,6,none⟩=some (.int .i64 (ps:Int))) (by kernel_rfl) ⟨cell_at 0 hBd,cell_at 1 hBd,cell_at 2 hBd,cell_at 3 hBd,cell_at 4 hBd,cell_at 5 hBd,cell_at 6 hBd⟩ (fun hH=>?_)
    have HBd:=Hd hBd
    have HAd:=Hd hAd
    have HOd:=Hd oD
    clear hBd hAd oD
    generalize we.drew=wd at HBd HAd HOd hH⊢
    refine tk 0 hH ?_
    refine tk 1 hH ?_
    refine tk 2 hH ?_
    refine rd 3 (fun K hK=>?_)
    go_simp
    refine (HKC.out _ (HOe.out.trans HOd.out (by simp))).mono ?_
    rintro e w' ⟨rfl,rfl⟩
    refine hK.out _ _ hH (fun hH=>?_)
    clear hK K
    have s0:wd.cell? ⟨w.heap.size,0,none⟩=some (.int .i64 0):=cell_at 0 HAd.out
    have s1:wd.cell? ⟨w.heap.size,1,none⟩=some (.string ⟨#[]⟩):=cell_at 1 HAd.out
    have s2:wd.cell? ⟨w.heap.size,2,none⟩=some (.slice none 0 0):=cell_at 2 HAd.out
    have s3:wd.cell? ⟨w.heap.size,3,none⟩=some (.int .i64 0):=cell_at 3 HAd.out
    have s4:wd.cell? ⟨w.heap.size,4,none⟩=some (.slice none 0 0):=cell_at 4 HAd.out
    have s5:wd.cell? ⟨w.heap.size,5,none⟩=some (.slice none 0 0):=cell_at 5 HAd.out
    have s6:wd.cell? ⟨w.heap.size,6,none⟩=some (.int .i64 0):=cell_at 6 HAd.out
    have gs0:=free_at 0 HAd.out
    have gs1:=free_at 1 HAd.out
    have gs2:=free_at 2 HAd.out
    have gs3:=free_at 3 HAd.out
    have gs4:=free_at 4 HAd.out
    have gs5:=free_at 5 HAd.out
    have gs6:=free_at 6 HAd.out
    clear hH
    refine rd 4 (fun K hK=>?_)
    go_simp
    have oz:Only [w.heap.size] wd (((((((wd.setCell ⟨w.heap.size,0,none⟩ (.int .i64 3)).setCell ⟨w.heap.size,1,none⟩ (.string ⟨#[]⟩)).setCell ⟨w.heap.size,2,none⟩ (.slice (some ⟨w7.heap.size,0,none⟩) 2 2)).setCell ⟨w.heap.size,3,none⟩ (.int .i64 0)).setCell ⟨w.heap.size,4,none⟩ (.slice none 0 0)).setCell ⟨w.heap.size,5,none⟩ (.slice none 0 0)).setCell ⟨w.heap.size,6,none⟩ (.int .i64 (ps:Int))):=
     (((((((Only.refl _ _).setCell (.inl (by simp)) _).setCell (.inl (by simp)) _).setCell (.inl (by simp)) _).setCell (.inl (by simp)) _).setCell (.inl (by simp)) _).setCell (.inl (by simp)) _).setCell (.inl (by simp)) _
    have hz:=seven_set HAd.out (.int .i64 3) (.string ⟨#[]⟩) (.slice (some ⟨w7.heap.size,0,none⟩) 2 2) (.int .i64 0) (.slice none 0 0) (.slice none 0 0) (.int .i64 (ps:Int))
    have hBz:=oz.heap HBd.out (by simp)
    generalize ((((((wd.setCell ⟨w.heap.size,0,none⟩ (.int .i64 3)).setCell ⟨w.heap.size,1,none⟩ (.string ⟨#[]⟩)).setCell ⟨w.heap.size,2,none⟩ (.slice (some ⟨w7.heap.size,0,none⟩) 2 2)).setCell ⟨w.heap.size,3,none⟩ (.int .i64 0)).setCell ⟨w.heap.size,4,none⟩ (.slice none 0 0)).setCell ⟨w.heap.size,5,none⟩ (.slice none 0 0)).setCell ⟨w.heap.size,6,none⟩ (.int .i64 (ps:Int))=wz at oz hz hBz⊢
    have HOz:=Hd oz
    have HZ:=Hd hz
    refine hK.out _ _ ⟨cell_at 0 hBz,cell_at 1 hBz,cell_at 2 hBz,cell_at 3 hBz,cell_at 4 hBz,cell_at 5 hBz,cell_at 6 hBz⟩ (fun hH=>?_)
    clear hK K hz hBz oz s0 s1 s2 s3 s4 s5 s6 gs0 gs1 gs2 gs3 gs4 gs5 gs6
    refine tk 5 hH ?_
    refine wpAnyH_done (by kernel_rfl) ?_ _
    clear hH
    go_wp2_with fail
    (try simp only [Exit.inBlock,Exit.then])
    refine bodyPost_ret (res_cell _ _ w.heap.size _ _ _ _ _ _ _ (.int .i64 zc) rfl rfl HZ.out) rfl ?_
    rw [HRR.out]
    refine ⟨3,0,ps,⟨#[]⟩,some ⟨w7.heap.size,0,none⟩,none,none,2,0,0,2,0,0,by rw [HCZ.out],fun s j hs=>?_,?_⟩
    ·obtain ⟨e,a3,he,rfl⟩:=closeS_ok hs
     refine SV.kept (S:=[w.heap.size]) ((HOd.out.mono (T:=[w.heap.size]) (by simp)).trans HOz.out (fun k hk=>.inl hk)) (fun k hk hB=>?_) (fun b hb=>?_) _ _ (SV.mk' (w:=we) (B:=fun b=>w.heap.size+1 < b) (nm:=[]) (HE3.out e a3 he) (SsV.nil _ _) (SsV.nil _ _))
     ·rw [List.mem_singleton.1 hk] at hB
      exact absurd hB (by omega)
     ·show w.heap.size≤b
      have:w.heap.size+1 < b:=hb
      omega
    ·exact (HOe.out.trans HOd.out (by simp)).trans (T:=[w.heap.size]) HOz.out (fun k hk=>.inr (by rw [List.mem_singleton.1 hk];exact Nat.le_refl _))
  ·skip
   obtain ⟨r2,hr2⟩:∃ r2,r2=exprT ts (a+1) dp:=⟨_,rfl⟩
   have ha1:a+1 < ts.length:=isT_lt H.out.ends HPO.out d61
   have hRR:R=closeS ts r2 [59] (fun e=>.mk 2 [] [t,e] 0 [] [] ps):=by
    rw [HR.out.1,cellR_of HRr.out.symm,← HR.out.2,← hr2]
    (rw [if_pos (.inl d61),if_pos (show isT ts a [61]=true from d61)])
   have KE:=fun (W:World) (ho:Only [] w W)=>rexpr_any (H.out.quiet ho) (p:=.ok (a+1)) ha1 dp hdp
   rw [show exprP ts (.ok (a+1)) dp=r2 from hr2.symm,show zP (.ok (a+1))=(a:Int)+1 from by show ((a+1:Nat):Int)=_;omega] at KE
   have hpo2:PosOk ts (nextP r2):=by rw [hr2];exact exprP_ok H.out.ends (p:=.ok (a+1)) ha1 dp
   have KC:=fun (W:World) (ho:Only [] w W)=>reat_any (H.out.quiet ho) (nextP r2) hpo2 ⟨#[59]⟩
   rw [← zR_next] at KC
   have hcz:zR (closeS ts r2 [59] (fun e=>.mk 2 [] [t,e] 0 [] [] ps))=zP (eatP ts (nextP r2) (⟨#[59]⟩:ByteArray).data.toList):=closeS_z ts r2 [59] _
   generalize zP (eatP ts (nextP r2) (⟨#[59]⟩:ByteArray).data.toList)=zc at KC hcz
   have HCZ:=Hd hcz
   have HRR:=Hd hRR
   have HKE:=Hd KE
   have HKC:=Hd KC
   have gb0:=free_at 0 HB5.out
   have b0:w5.cell? ⟨w.heap.size+1,0,none⟩=some (.int .i64 0):=cell_at 0 HB5.out
   clear hRR KE KC hpo2 hr2 hcz
   go_wp2_with fail
   have ob:Only [w.heap.size+1] w5 (w5.setCell ⟨w.heap.size+1,0,none⟩ (.int .i64 2)):=(Only.refl _ _).setCell (.inl (by simp)) _
   have hB6:=heap_cell (i:=0) (.int .i64 2) HB5.out
   generalize w5.setCell ⟨w.heap.size+1,0,none⟩ (.int .i64 2)=wb at ob hB6⊢
   have owb:Only [] w wb:=HO5.out.trans (T:=[w.heap.size+1]) ob (fun k hk=>.inr (by rw [List.mem_singleton.1 hk];omega))
   refine (HKE.out wb owb).mono ?_
   rintro e w6 ⟨k2,n2,s2,a2,l2,c2,p2,rfl,hv2,o6⟩
   have hA6:=o6.heap (ob.heap HA5.out (by simp)) (by simp)
   have hB6':=o6.heap hB6 (by simp)
   have hX6:=o6.heap (ob.heap HX5.out (by simp;omega)) (by simp)
   have szb:=ob.size
   have sz5:=O5.out.size
   have sz6:=o6.size
   have HVt6:EV w6 (fun b=>w.heap.size+1 < b) t _:=EV.quiet (EV.kept ob (fun k hk hB=>by rw [List.mem_singleton.1 hk] at hB;exact absurd hB (by omega)) (fun _ h=>h) t _ (EV.quiet (EV.kept (Only.refl [] w4) (by simp) (fun b hb=>show w.heap.size+1 < b from Nat.lt_of_lt_of_le hsz3 hb) t _ HVt.out) O5.out)) o6
   have HV2:∀ e j,r2=.ok (e,j)→EV w6 (fun b=>w.heap.size+1 < b) e _:=fun e j he=>EV.kept (Only.refl [] w6) (by simp) (fun b hb=>by have:wb.heap.size≤b:=hb;have:=O5.out.size;omega) e _ (hv2 e j he)
   have HVS:=Hd (And.intro HVt6 HV2)
   have HO6:=Hd (owb.trans o6 (by simp))
   clear HVt6 HV2 hv2 ob hB6 owb o6
   go_upto_region 20 with (fail)
   have o7:Only [] w6 (w6.alloc (.cells #[.int .i64 k2,.int .i64 n2,.string s2,.slice a2 l2 c2,.int .i64 p2] 72)):=(Only.refl _ _).alloc _
   have hY7:=heap_new w6 (.cells #[.int .i64 k2,.int .i64 n2,.string s2,.slice a2 l2 c2,.int .i64 p2] 72)
   have hs7:(w6.alloc (.cells #[.int .i64 k2,.int .i64 n2,.string s2,.slice a2 l2 c2,.int .i64 p2] 72)).heap.size=w6.heap.size+1:=Array.size_push _
   generalize w6.alloc (.cells #[.int .i64 k2,.int .i64 n2,.string s2,.slice a2 l2 c2,.int .i64 p2] 72)=w7 at o7 hY7 hs7⊢
   have hA7:=o7.heap hA6 (by simp)
   have hB7:=o7.heap hB6' (by simp)
   have hX7:=o7.heap hX6 (by simp)
   have x0:w7.cell? ⟨w4.heap.size,0,none⟩=some (.int .i64 k'):=cell_at 0 hX7
   have x1:w7.cell? ⟨w4.heap.size,1,none⟩=some (.int .i64 n'):=cell_at 1 hX7
   have x2:w7.cell? ⟨w4.heap.size,2,none⟩=some (.string s'):=cell_at 2 hX7
   have x3:w7.cell? ⟨w4.heap.size,3,none⟩=some (.slice a' l' c'):=cell_at 3 hX7
   have x4:w7.cell? ⟨w4.heap.size,4,none⟩=some (.int .i64 p'):=cell_at 4 hX7
   have y0:w7.cell? ⟨w6.heap.size,0,none⟩=some (.int .i64 k2):=cell_at 0 hY7
   have y1:w7.cell? ⟨w6.heap.size,1,none⟩=some (.int .i64 n2):=cell_at 1 hY7
   have y2:w7.cell? ⟨w6.heap.size,2,none⟩=some (.string s2):=cell_at 2 hY7
   have y3:w7.cell? ⟨w6.heap.size,3,none⟩=some (.slice a2 l2 c2):=cell_at 3 hY7
   have y4:w7.cell? ⟨w6.heap.size,4,none⟩=some (.int .i64 p2):=cell_at 4 hY7
   have b2:w7.cell? ⟨w.heap.size+1,2,none⟩=some (.slice none 0 0):=cell_at 2 hB7
   have gb2:=free_at 2 hB7
   have lB:w.heap.size+1 < w7.heap.size:=by omega
   have nB:w.heap.size+1≠w7.heap.size:=by omega
   have lX:w4.heap.size < w7.heap.size:=(Array.getElem?_eq_some_iff.1 hX7).1
   have nX:w4.heap.size≠w7.heap.size:=by omega
   have lY:w6.heap.size < w7.heap.size:=by omega
   have nY:w6.heap.size≠w7.heap.size:=by omega
   have HA7:=Hd hA7
   have HB7:=Hd hB7
   have HO7:=Hd o7
   clear hA7 hB7 hX7 hY7 o7 hA6 hB6' hX6 hs7
   go_upto_region 21 with (fail)
   have oc:Only [w.heap.size+1] w7 (w7.setCell ⟨w.heap.size+1,2,none⟩ (.slice (some ⟨w7.heap.size,0,none⟩) 2 2)):=(Only.refl _ _).setCell (.inl (by simp)) _
   have hBc:=heap_cell (i:=2) (.slice (some ⟨w7.heap.size,0,none⟩) 2 2) HB7.out
   have hsc:(w7.setCell ⟨w.heap.size+1,2,none⟩ (.slice (some ⟨w7.heap.size,0,none⟩) 2 2)).heap.size=w7.heap.size:=by simp
   have hAc:=oc.heap HA7.out (by simp)
   generalize w7.setCell ⟨w.heap.size+1,2,none⟩ (.slice (some ⟨w7.heap.size,0,none⟩) 2 2)=wc at oc hBc hsc hAc⊢
   have e1:EV wc (fun b=>w.heap.size+1 < b) t _:=EV.kept oc (fun k hk hB=>by rw [List.mem_singleton.1 hk] at hB;exact absurd hB (by omega)) (fun _ h=>h) t _ (EV.quiet HVS.out.1 HO7.out)
   have e2:∀ e j,r2=.ok (e,j)→EV wc (fun b=>w.heap.size+1 < b) e _:=fun e j he=>EV.kept oc (fun k hk hB=>by rw [List.mem_singleton.1 hk] at hB;exact absurd hB (by omega)) (fun _ h=>h) e _ (EV.quiet (HVS.out.2 e j he) HO7.out)
   have e3:∀ e j,r2=.ok (e,j)→EsV (wc.alloc (.cells #[.int .i64 k',.int .i64 n',.string s',.slice a' l' c',.int .i64 p',.int .i64 k2,.int .i64 n2,.string s2,.slice a2 l2 c2,.int .i64 p2] 72)) (fun b=>w.heap.size+1 < b) (.slice (some ⟨w7.heap.size,0,none⟩) 2 2) [t,e]:=fun e j he=>by
    have:=EsV.made2 e1 (e2 e j he) (by omega)
    rw [hsc] at this
    exact this
   have od:Only [w.heap.size+1] w7 (wc.alloc (.cells #[.int .i64 k',.int .i64 n',.string s',.slice a' l' c',.int .i64 p',.int .i64 k2,.int .i64 n2,.string s2,.slice a2 l2 c2,.int .i64 p2] 72)):=oc.alloc _
   have hBd:=heap_old (.cells #[.int .i64 k',.int .i64 n',.string s',.slice a' l' c',.int .i64 p',.int .i64 k2,.int .i64 n2,.string s2,.slice a2 l2 c2,.int .i64 p2] 72) hBc
   have hAd:=heap_old (.cells #[.int .i64 k',.int .i64 n',.string s',.slice a' l' c',.int .i64 p',.int .i64 k2,.int .i64 n2,.string s2,.slice a2 l2 c2,.int .i64 p2] 72) hAc
   generalize wc.alloc (.cells #[.int .i64 k',.int .i64 n',.string s',.slice a' l' c',.int .i64 p',.int .i64 k2,.int .i64 n2,.string s2,.slice a2 l2 c2,.int .i64 p2] 72)=we at e3 od hBd hAd⊢
   have HE3:=Hd e3
   have HOe:=Hd ((HO6.out.trans HO7.out (by simp)).trans (T:=[w.heap.size+1]) od (fun k hk=>.inr (by rw [List.mem_singleton.1 hk];omega)))
   clear e1 e2 e3 oc hBc hsc hAc od x0 x1 x2 x3 x4 y0 y1 y2 y3 y4 b2 gb2 lB nB lX nX lY nY HB7 HA7
   have oD:Only [] we we.drew:=(Only.refl [] we).drew
   have hBd:=oD.heap hBd (by simp)
   have hAd:=oD.heap hAd (by simp)
   refine wp_region_held_drew (S:=fun w'=>w'.cell? ⟨w.heap.size+1,0,none⟩=some (.int .i64 2)∧w'.cell? ⟨w.heap.size+1,1,none⟩=some (.string ⟨#[]⟩)∧w'.cell? ⟨w.heap.size+1,2,none⟩=some (.slice (some ⟨w7.heap.size,0,none⟩) 2 2)∧w'.cell? ⟨w.heap.size+1,3,none⟩=some (.int .i64 0)∧w'.cell? ⟨w.heap.size+1,4,none⟩=some (.slice none 0 0)∧w'.cell? ⟨w.heap.size+1,5,none⟩=some (.slice none 0 0)∧w'.cell? ⟨w.heap.size+1,6,none⟩=some (.int .i64 (ps:Int))) (by kernel_rfl) ⟨cell_at 0 hBd,cell_at 1 hBd,cell_at 2 hBd,cell_at 3 hBd,cell_at 4 hBd,cell_at 5 hBd,cell_at 6 hBd⟩ (fun hH=>?_)
   have HBd:=Hd hBd
   have HAd:=Hd hAd
   have HOd:=Hd oD
   clear hBd hAd oD
   generalize we.drew=wd at HBd HAd HOd hH⊢
   refine tk 0 hH ?_
   refine tk 1 hH ?_
   refine tk 2 hH ?_
   refine rd 3 (fun K hK=>?_)
   go_simp
   refine (HKC.out _ (HOe.out.trans HOd.out (by simp))).mono ?_
   rintro e w' ⟨rfl,rfl⟩
   refine hK.out _ _ hH (fun hH=>?_)
   clear hK K
   have s0:wd.cell? ⟨w.heap.size,0,none⟩=some (.int .i64 0):=cell_at 0 HAd.out
   have s1:wd.cell? ⟨w.heap.size,1,none⟩=some (.string ⟨#[]⟩):=cell_at 1 HAd.out
   have s2:wd.cell? ⟨w.heap.size,2,none⟩=some (.slice none 0 0):=cell_at 2 HAd.out
   have s3:wd.cell? ⟨w.heap.size,3,none⟩=some (.int .i64 0):=cell_at 3 HAd.out
   have s4:wd.cell? ⟨w.heap.size,4,none⟩=some (.slice none 0 0):=cell_at 4 HAd.out
   have s5:wd.cell? ⟨w.heap.size,5,none⟩=some (.slice none 0 0):=cell_at 5 HAd.out
   have s6:wd.cell? ⟨w.heap.size,6,none⟩=some (.int .i64 0):=cell_at 6 HAd.out
   have gs0:=free_at 0 HAd.out
   have gs1:=free_at 1 HAd.out
   have gs2:=free_at 2 HAd.out
   have gs3:=free_at 3 HAd.out
   have gs4:=free_at 4 HAd.out
   have gs5:=free_at 5 HAd.out
   have gs6:=free_at 6 HAd.out
   clear hH
   refine rd 4 (fun K hK=>?_)
   go_simp
   have oz:Only [w.heap.size] wd (((((((wd.setCell ⟨w.heap.size,0,none⟩ (.int .i64 2)).setCell ⟨w.heap.size,1,none⟩ (.string ⟨#[]⟩)).setCell ⟨w.heap.size,2,none⟩ (.slice (some ⟨w7.heap.size,0,none⟩) 2 2)).setCell ⟨w.heap.size,3,none⟩ (.int .i64 0)).setCell ⟨w.heap.size,4,none⟩ (.slice none 0 0)).setCell ⟨w.heap.size,5,none⟩ (.slice none 0 0)).setCell ⟨w.heap.size,6,none⟩ (.int .i64 (ps:Int))):=
    (((((((Only.refl _ _).setCell (.inl (by simp)) _).setCell (.inl (by simp)) _).setCell (.inl (by simp)) _).setCell (.inl (by simp)) _).setCell (.inl (by simp)) _).setCell (.inl (by simp)) _).setCell (.inl (by simp)) _
   have hz:=seven_set HAd.out (.int .i64 2) (.string ⟨#[]⟩) (.slice (some ⟨w7.heap.size,0,none⟩) 2 2) (.int .i64 0) (.slice none 0 0) (.slice none 0 0) (.int .i64 (ps:Int))
   have hBz:=oz.heap HBd.out (by simp)
   generalize ((((((wd.setCell ⟨w.heap.size,0,none⟩ (.int .i64 2)).setCell ⟨w.heap.size,1,none⟩ (.string ⟨#[]⟩)).setCell ⟨w.heap.size,2,none⟩ (.slice (some ⟨w7.heap.size,0,none⟩) 2 2)).setCell ⟨w.heap.size,3,none⟩ (.int .i64 0)).setCell ⟨w.heap.size,4,none⟩ (.slice none 0 0)).setCell ⟨w.heap.size,5,none⟩ (.slice none 0 0)).setCell ⟨w.heap.size,6,none⟩ (.int .i64 (ps:Int))=wz at oz hz hBz⊢
   have HOz:=Hd oz
   have HZ:=Hd hz
   refine hK.out _ _ ⟨cell_at 0 hBz,cell_at 1 hBz,cell_at 2 hBz,cell_at 3 hBz,cell_at 4 hBz,cell_at 5 hBz,cell_at 6 hBz⟩ (fun hH=>?_)
   clear hK K hz hBz oz s0 s1 s2 s3 s4 s5 s6 gs0 gs1 gs2 gs3 gs4 gs5 gs6
   refine tk 5 hH ?_
   refine wpAnyH_done (by kernel_rfl) ?_ _
   clear hH
   go_wp2_with fail
   (try simp only [Exit.inBlock,Exit.then])
   refine bodyPost_ret (res_cell _ _ w.heap.size _ _ _ _ _ _ _ (.int .i64 zc) rfl rfl HZ.out) rfl ?_
   rw [HRR.out]
   refine ⟨2,0,ps,⟨#[]⟩,some ⟨w7.heap.size,0,none⟩,none,none,2,0,0,2,0,0,by rw [HCZ.out],fun s j hs=>?_,?_⟩
   ·obtain ⟨e,a3,he,rfl⟩:=closeS_ok hs
    refine SV.kept (S:=[w.heap.size]) ((HOd.out.mono (T:=[w.heap.size]) (by simp)).trans HOz.out (fun k hk=>.inl hk)) (fun k hk hB=>?_) (fun b hb=>?_) _ _ (SV.mk' (w:=we) (B:=fun b=>w.heap.size+1 < b) (nm:=[]) (HE3.out e a3 he) (SsV.nil _ _) (SsV.nil _ _))
    ·rw [List.mem_singleton.1 hk] at hB
     exact absurd hB (by omega)
    ·show w.heap.size≤b
     have:w.heap.size+1 < b:=hb
     omega
   ·exact (HOe.out.trans HOd.out (by simp)).trans (T:=[w.heap.size]) HOz.out (fun k hk=>.inr (by rw [List.mem_singleton.1 hk];exact Nat.le_refl _))
end
end Go.Proofs.YtheanmadognhbaaGreatDoor
