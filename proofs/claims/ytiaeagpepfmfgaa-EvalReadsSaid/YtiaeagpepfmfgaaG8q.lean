import Derived.Test.YtiaeagpepfmfgaaG7q
import Derived.Deep.Cut
namespace Go.Proofs.Ytiaeagpepfmfgaa
open Go.RowKit Go.Maps
set_option linter.unusedSimpArgs false
set_option linter.unusedVariables false
theorem res_around (tmps:Array Value) (w:World) (g:Nat) (v0 v1 v2 v3 v4 z:Value) (h6:tmps.getD 10 undef=.pointer (some ⟨g,0,none⟩)) (h7:tmps.getD 11 undef=z) (h:w.heap[g]?=some (.cells #[v0,v1,v2,v3,v4] 70 (0,0))) :
  (results Try.f77 tmps).run Try.prog w=.ok (.tuple #[.agg #[v0,v1,v2,v3,v4],z]) w:=by
 have hl:=load_expr w g v0 v1 v2 v3 v4 h
 have h6':tmps[10]?.getD undef=.pointer (some ⟨g,0,none⟩):=by simpa using h6
 have h7':tmps[11]?.getD undef=z:=by simpa using h7
 simp [results,Try.results77,asAddr,h6',h7',hl]
def closeR (ts:List Tok) (r:Except Nat (E×Nat)) (c:Sec):Except Nat (E×Nat):=match r with
 | .error k=>.error k
 | .ok (e,a)=>match eatT ts a c with
  | .error k=>.error k
  | .ok a=>.ok (e,a)
theorem closeR_z (ts:List Tok) (r:Except Nat (E×Nat)) (c:Sec):zR (closeR ts r c)=zP (eatP ts (nextP r) c):=by
 cases r with
 | error k=>rfl
 | ok y=>
  obtain ⟨t,a⟩:=y
  show zR (match eatT ts a c with | .error k=>.error k | .ok a=>.ok (t,a))=zP (eatT ts a c)
  cases eatT ts a c<;>rfl
theorem closeR_ok {ts:List Tok} {r:Except Nat (E×Nat)} {c:Sec} {t:E} {j:Nat} (h:closeR ts r c=.ok (t,j)):∃ a,r=.ok (t,a):=by
 cases r with
 | error k=>cases h
 | ok y=>
  obtain ⟨t',a⟩:=y
  unfold closeR at h
  cases hc:eatT ts a c<;>simp [hc] at h
  exact ⟨a,by rw [h.1]⟩
section
variable {w w':World} {v:Value} {ts:List Tok}
set_option maxRecDepth 100000 in
set_option maxHeartbeats 4000000 in
theorem rexpr_err (h:TS w v ts) (k:Nat) (least dp:Int):Calls Try.prog 43 #[v,.int .i64 (zP (.error k)),.int .i64 least,.int .i64 dp] w (RE w (.error k)):=by
 obtain ⟨a,cap,rfl⟩:=h.shape
 have KS:=rsmall_err (h.quiet ((Only.refl [] w).alloc (.cells #[.int .i64 0,.int .i64 0,.string ⟨#[]⟩,.slice none 0 0,.int .i64 0] 70))) k dp
 obtain ⟨y,hy,hy0,hy1⟩:=zP_neg k
 rw [hy] at KS⊢
 have HY:=Lib.hid (And.intro hy hy1)
 clear h hy hy1
 go_enter Try.func43,Try.ntmps43
 go_wp2_with fail
 refine KS.mono ?_
 rintro e w2 ⟨k',n',s',a',l',c',p',rfl,hv,o2⟩
 have hz:zR (.error k:Except Nat (E×Nat))=y:=HY.out.2.symm
 rw [hz]
 have hA2:=o2.heap (heap_new w (.cells #[.int .i64 0,.int .i64 0,.string ⟨#[]⟩,.slice none 0 0,.int .i64 0] 70)) (by simp)
 have ow:=(((Only.refl [] w).alloc (.cells #[.int .i64 0,.int .i64 0,.string ⟨#[]⟩,.slice none 0 0,.int .i64 0] 70)).trans o2 (by simp)).alloc (.cells #[.int .i64 k',.int .i64 n',.string s',.slice a' l' c',.int .i64 p'] 70)
 have li:=And.intro ow (And.intro (heap_old (.cells #[.int .i64 k',.int .i64 n',.string s',.slice a' l' c',.int .i64 p'] 70) hA2) (heap_new w2 (.cells #[.int .i64 k',.int .i64 n',.string s',.slice a' l' c',.int .i64 p'] 70)))
 have LI0:=Lib.hid li
 clear li hA2 ow KS hv o2 hz
 go_wp2_with fail
 generalize hg10:w2.heap.size=g10 at LI0⊢
 generalize w2.alloc (.cells #[.int .i64 k',.int .i64 n',.string s',.slice a' l' c',.int .i64 p'] 70)=w3 at LI0⊢
 clear hg10
 go_loopw [1,11] (fun at_ mo wr=>at_=.int .i64 y∧mo=.int .i64 5∧Hid (wr=w3)) (fun _ _ _=>0)
 case atStart=>exact ⟨rfl,rfl,Lib.hid rfl⟩
 case round=>
  obtain ⟨rfl,rfl,L⟩:=hrel
  obtain rfl:=L.out
  have b0:wr.cell? ⟨g10,0,none⟩=some (.int .i64 k'):=cell_at 0 LI0.out.2.2
  have b1:wr.cell? ⟨g10,1,none⟩=some (.int .i64 n'):=cell_at 1 LI0.out.2.2
  have b2:wr.cell? ⟨g10,2,none⟩=some (.string s'):=cell_at 2 LI0.out.2.2
  have b3:wr.cell? ⟨g10,3,none⟩=some (.slice a' l' c'):=cell_at 3 LI0.out.2.2
  have b4:wr.cell? ⟨g10,4,none⟩=some (.int .i64 p'):=cell_at 4 LI0.out.2.2
  have s0:wr.cell? ⟨w.heap.size,0,none⟩=some (.int .i64 0):=cell_at 0 LI0.out.2.1
  have s1:wr.cell? ⟨w.heap.size,1,none⟩=some (.int .i64 0):=cell_at 1 LI0.out.2.1
  have s2:wr.cell? ⟨w.heap.size,2,none⟩=some (.string ⟨#[]⟩):=cell_at 2 LI0.out.2.1
  have s3:wr.cell? ⟨w.heap.size,3,none⟩=some (.slice none 0 0):=cell_at 3 LI0.out.2.1
  have s4:wr.cell? ⟨w.heap.size,4,none⟩=some (.int .i64 0):=cell_at 4 LI0.out.2.1
  have gs0:=free_at 0 LI0.out.2.1
  have gs1:=free_at 1 LI0.out.2.1
  have gs2:=free_at 2 LI0.out.2.1
  have gs3:=free_at 3 LI0.out.2.1
  have gs4:=free_at 4 LI0.out.2.1
  go_wp2_with fail
  have ob:Only [w.heap.size] wr (((((wr.setCell ⟨w.heap.size,0,none⟩ (.int .i64 k')).setCell ⟨w.heap.size,1,none⟩ (.int .i64 n')).setCell ⟨w.heap.size,2,none⟩ (.string s')).setCell ⟨w.heap.size,3,none⟩ (.slice a' l' c')).setCell ⟨w.heap.size,4,none⟩ (.int .i64 p')):=
   (((((Only.refl _ _).setCell (.inl (by simp)) _).setCell (.inl (by simp)) _).setCell (.inl (by simp)) _).setCell (.inl (by simp)) _).setCell (.inl (by simp)) _
  have hzb:=five_set LI0.out.2.1 (.int .i64 k') (.int .i64 n') (.string s') (.slice a' l' c') (.int .i64 p')
  generalize ((((wr.setCell ⟨w.heap.size,0,none⟩ (.int .i64 k')).setCell ⟨w.heap.size,1,none⟩ (.int .i64 n')).setCell ⟨w.heap.size,2,none⟩ (.string s')).setCell ⟨w.heap.size,3,none⟩ (.slice a' l' c')).setCell ⟨w.heap.size,4,none⟩ (.int .i64 p')=wz at ob hzb⊢
  (try simp only [Exit.inBlock,Exit.then])
  refine bodyPost_ret (res_expr _ _ w.heap.size _ _ _ _ _ (.int .i64 y) rfl rfl hzb) rfl ?_
  refine RE.bad HY.out.2 ?_
  exact LI0.out.1.trans (T:=[w.heap.size]) ob (fun k hk=>.inr (by rw [List.mem_singleton.1 hk];exact Nat.le_refl _))
set_option maxRecDepth 100000 in
set_option maxHeartbeats 4000000 in
theorem around_go (h:TS w v ts) (p:Except Nat Nat) (hp:PosOk ts p) (dp:Nat) (hdp:dp≤13) (x y:ByteArray) (hb:¬ (12≤dp∧isP ts p x.data.toList=true)) (r:Except Nat (E×Nat)) (hr:PosOk ts (nextP r))
  (KE:∀ W,Only [] w W→Calls Try.prog 43 #[v,.int .i64 (zP (eatP ts p x.data.toList)),.int .i64 1,.int .i64 ((dp:Int)+1)] W (RE W r)) :
  Calls Try.prog 77 #[v,.int .i64 (zP p),.int .i64 (dp:Int),.string x,.string y] w (RE w (closeR ts r y.data.toList)):=by
 obtain ⟨a,cap,rfl⟩:=h.shape
 have hlen:=h.len
 have H:=Lib.hid h
 have KI:=fun (W:World) (ho:Only [] w W)=>ris_any (h.quiet ho) p hp x
 have KT:=fun (W:World) (ho:Only [] w W)=>reat_any (h.quiet ho) p hp x
 have KC:=fun (W:World) (ho:Only [] w W)=>reat_any (h.quiet ho) (nextP r) hr y
 rw [← zR_next] at KC
 have HCz:=Lib.hid (closeR_z ts r y.data.toList)
 have HCo:=Lib.hid (fun t j=>closeR_ok (ts:=ts) (r:=r) (c:=y.data.toList) (t:=t) (j:=j))
 generalize zP p=zp at KI KT⊢
 generalize zP (eatP ts p x.data.toList)=ze at KT KE
 generalize zP (eatP ts (nextP r) y.data.toList)=zc at KC HCz
 generalize isP ts p x.data.toList=bx at KI hb
 generalize closeR ts r y.data.toList=R at HCz HCo⊢
 have HKI:=Lib.hid KI
 have HKT:=Lib.hid KT
 have HKC:=Lib.hid KC
 have HKE:=Lib.hid KE
 clear KI KT KC KE h hr hp
 go_enter Try.func77,Try.ntmps77
 by_cases h12:12≤dp
 ·have h12':(12:Int)≤(dp:Int):=by omega
  obtain rfl:bx=false:=by
   cases bx
   ·rfl
   ·exact absurd ⟨h12,rfl⟩ hb
  clear hb
  go_wp2_with fail
  refine (HKI.out _ ((Only.refl [] w).alloc _)).mono ?_
  rintro e w' ⟨rfl,rfl⟩
  go_wp2_with fail
  refine (HKT.out _ ((Only.refl [] w).alloc _)).mono ?_
  rintro e w' ⟨rfl,rfl⟩
  go_wp2_with fail
  refine (HKE.out _ ((Only.refl [] w).alloc _)).mono ?_
  rintro e w4 ⟨k',n',s',a',l',c',p',rfl,hv,o4⟩
  have hA4:=o4.heap (heap_new w (.cells #[.int .i64 0,.int .i64 0,.string ⟨#[]⟩,.slice none 0 0,.int .i64 0] 70)) (by simp)
  have o04:=((Only.refl [] w).alloc (.cells #[.int .i64 0,.int .i64 0,.string ⟨#[]⟩,.slice none 0 0,.int .i64 0] 70)).trans o4 (by simp)
  have hsz1:(w.alloc (.cells #[.int .i64 0,.int .i64 0,.string ⟨#[]⟩,.slice none 0 0,.int .i64 0] 70)).heap.size=w.heap.size+1:=Array.size_push _
  have hvv:∀ t i,r=.ok (t,i)→EV w4 (fun b=>w.heap.size+1≤b) t [.int .i64 k',.int .i64 n',.string s',.slice a' l' c',.int .i64 p']:=by
   intro t i e
   have:=hv t i e
   rw [hsz1] at this
   exact this
  have HV:=Lib.hid hvv
  clear hv o4 hsz1 hvv
  go_upto_region 4 with (fail)
  have o5:Only [] w4 (w4.alloc (.cells #[.int .i64 k',.int .i64 n',.string s',.slice a' l' c',.int .i64 p'] 70)):=(Only.refl _ _).alloc _
  have hX5:=heap_new w4 (.cells #[.int .i64 k',.int .i64 n',.string s',.slice a' l' c',.int .i64 p'] 70)
  generalize w4.alloc (.cells #[.int .i64 k',.int .i64 n',.string s',.slice a' l' c',.int .i64 p'] 70)=w5 at o5 hX5⊢
  have oD:Only [] w5 w5.drew:=(Only.refl [] w5).drew
  have hXd:=oD.heap hX5 (by simp)
  have hAd:=oD.heap (o5.heap hA4 (by simp)) (by simp)
  have HOd:=Lib.hid (o5.trans oD (by simp))
  have HO4:=Lib.hid o04
  have hne:w.heap.size < w4.heap.size:=(Array.getElem?_eq_some_iff.1 hA4).1
  clear o5 hX5 hA4 o04 oD
  refine wp_region_held_drew (S:=fun w'=>w'.cell? ⟨w4.heap.size,0,none⟩=some (.int .i64 k')∧w'.cell? ⟨w4.heap.size,1,none⟩=some (.int .i64 n')∧w'.cell? ⟨w4.heap.size,2,none⟩=some (.string s')∧w'.cell? ⟨w4.heap.size,3,none⟩=some (.slice a' l' c')∧w'.cell? ⟨w4.heap.size,4,none⟩=some (.int .i64 p')) (by kernel_rfl) ⟨cell_at 0 hXd,cell_at 1 hXd,cell_at 2 hXd,cell_at 3 hXd,cell_at 4 hXd⟩ (fun hH=>?_)
  have HXd:=Lib.hid hXd
  have HAd:=Lib.hid hAd
  clear hXd hAd
  generalize w5.drew=wd at HXd HAd HOd hH⊢
  refine take_list (i:=0) (v:=?_) rfl (by kernel_rfl) (by kernel_rfl) (by kernel_rfl) (fun _ _ _ h=>h) (Or.inl ⟨by rfl,?_⟩) hH ?_
  rotate_left
  ·((intro w hSw;(try dsimp only at hSw);go_simp);try with_reducible rfl)
  simp only [Act.put,List.setIfInBounds_toArray,List.set_cons_zero,List.set_cons_succ]
  refine take_list (i:=1) (v:=?_) rfl (by kernel_rfl) (by kernel_rfl) (by kernel_rfl) (fun _ _ _ h=>h) (Or.inl ⟨by rfl,?_⟩) hH ?_
  rotate_left
  ·((intro w hSw;(try dsimp only at hSw);go_simp);try with_reducible rfl)
  simp only [Act.put,List.setIfInBounds_toArray,List.set_cons_zero,List.set_cons_succ]
  refine take_list (i:=2) (v:=?_) rfl (by kernel_rfl) (by kernel_rfl) (by kernel_rfl) (fun _ _ _ h=>h) (Or.inl ⟨by rfl,?_⟩) hH ?_
  rotate_left
  ·((intro w hSw;(try dsimp only at hSw);go_simp);try with_reducible rfl)
  simp only [Act.put,List.setIfInBounds_toArray,List.set_cons_zero,List.set_cons_succ]
  refine take_list (i:=3) (v:=?_) rfl (by kernel_rfl) (by kernel_rfl) (by kernel_rfl) (fun _ _ _ h=>h) (Or.inl ⟨by rfl,?_⟩) hH ?_
  rotate_left
  ·((intro w hSw;(try dsimp only at hSw);go_simp);try with_reducible rfl)
  simp only [Act.put,List.setIfInBounds_toArray,List.set_cons_zero,List.set_cons_succ]
  refine wpAnyH_ready (rs:=[4]) (by kernel_rfl) (by simp) ?_
  refine ready_list rfl (fun K hK=>?_)
  go_simp
  refine (HKC.out _ (HO4.out.trans HOd.out (by simp))).mono ?_
  rintro e w' ⟨rfl,rfl⟩
  refine hK.out _ _ hH (fun hH=>?_)
  clear hK K
  have s0:wd.cell? ⟨w.heap.size,0,none⟩=some (.int .i64 0):=cell_at 0 HAd.out
  have s1:wd.cell? ⟨w.heap.size,1,none⟩=some (.int .i64 0):=cell_at 1 HAd.out
  have s2:wd.cell? ⟨w.heap.size,2,none⟩=some (.string ⟨#[]⟩):=cell_at 2 HAd.out
  have s3:wd.cell? ⟨w.heap.size,3,none⟩=some (.slice none 0 0):=cell_at 3 HAd.out
  have s4:wd.cell? ⟨w.heap.size,4,none⟩=some (.int .i64 0):=cell_at 4 HAd.out
  have gs0:=free_at 0 HAd.out
  have gs1:=free_at 1 HAd.out
  have gs2:=free_at 2 HAd.out
  have gs3:=free_at 3 HAd.out
  have gs4:=free_at 4 HAd.out
  clear hH
  refine wpAnyH_ready (rs:=[5]) (by kernel_rfl) (by simp) ?_
  refine ready_list rfl (fun K hK=>?_)
  go_simp
  have oz:Only [w.heap.size] wd (((((wd.setCell ⟨w.heap.size,0,none⟩ (.int .i64 k')).setCell ⟨w.heap.size,1,none⟩ (.int .i64 n')).setCell ⟨w.heap.size,2,none⟩ (.string s')).setCell ⟨w.heap.size,3,none⟩ (.slice a' l' c')).setCell ⟨w.heap.size,4,none⟩ (.int .i64 p')):=
   (((((Only.refl _ _).setCell (.inl (by simp)) _).setCell (.inl (by simp)) _).setCell (.inl (by simp)) _).setCell (.inl (by simp)) _).setCell (.inl (by simp)) _
  have hz:=five_set HAd.out (.int .i64 k') (.int .i64 n') (.string s') (.slice a' l' c') (.int .i64 p')
  have hXz:=oz.heap HXd.out (by simp;omega)
  generalize ((((wd.setCell ⟨w.heap.size,0,none⟩ (.int .i64 k')).setCell ⟨w.heap.size,1,none⟩ (.int .i64 n')).setCell ⟨w.heap.size,2,none⟩ (.string s')).setCell ⟨w.heap.size,3,none⟩ (.slice a' l' c')).setCell ⟨w.heap.size,4,none⟩ (.int .i64 p')=wz at oz hz hXz⊢
  have HOz:=Lib.hid oz
  have HZ:=Lib.hid hz
  refine hK.out _ _ ⟨cell_at 0 hXz,cell_at 1 hXz,cell_at 2 hXz,cell_at 3 hXz,cell_at 4 hXz⟩ (fun hH=>?_)
  clear hK K hz hXz oz s0 s1 s2 s3 s4 gs0 gs1 gs2 gs3 gs4
  refine take_list (i:=6) (v:=?_) rfl (by kernel_rfl) (by kernel_rfl) (by kernel_rfl) (fun _ _ _ h=>h) (Or.inl ⟨by rfl,?_⟩) hH ?_
  rotate_left
  ·((intro w hSw;(try dsimp only at hSw);go_simp);try with_reducible rfl)
  simp only [Act.put,List.setIfInBounds_toArray,List.set_cons_zero,List.set_cons_succ]
  refine wpAnyH_done (by kernel_rfl) ?_ _
  clear hH
  go_wp2_with fail
  (try simp only [Exit.inBlock,Exit.then])
  refine bodyPost_ret (res_around _ _ w.heap.size _ _ _ _ _ (.int .i64 zc) rfl rfl HZ.out) rfl ?_
  refine ⟨k',n',s',a',l',c',p',by rw [HCz.out],fun t i e=>?_,?_⟩
  ·obtain ⟨a2,ha2⟩:=HCo.out t i e
   refine EV.kept (S:=[w.heap.size]) ((HOd.out.mono (T:=[w.heap.size]) (by simp)).trans HOz.out (fun k hk=>.inl hk)) (fun k hk hB=>?_) (fun b hb=>?_) t _ (HV.out t a2 ha2)
   ·rw [List.mem_singleton.1 hk] at hB
    omega
   ·show w.heap.size≤b
    have:w.heap.size+1≤b:=hb
    omega
  ·exact ((HO4.out.trans HOd.out (by simp)).trans (T:=[w.heap.size]) HOz.out (fun k hk=>.inr (by rw [List.mem_singleton.1 hk];exact Nat.le_refl _)))
 ·have h12':¬ (12:Int)≤(dp:Int):=by omega
  clear hb
  go_wp2_with fail
  refine (HKT.out _ ((Only.refl [] w).alloc _)).mono ?_
  rintro e w' ⟨rfl,rfl⟩
  go_wp2_with fail
  refine (HKE.out _ ((Only.refl [] w).alloc _)).mono ?_
  rintro e w4 ⟨k',n',s',a',l',c',p',rfl,hv,o4⟩
  have hA4:=o4.heap (heap_new w (.cells #[.int .i64 0,.int .i64 0,.string ⟨#[]⟩,.slice none 0 0,.int .i64 0] 70)) (by simp)
  have o04:=((Only.refl [] w).alloc (.cells #[.int .i64 0,.int .i64 0,.string ⟨#[]⟩,.slice none 0 0,.int .i64 0] 70)).trans o4 (by simp)
  have hsz1:(w.alloc (.cells #[.int .i64 0,.int .i64 0,.string ⟨#[]⟩,.slice none 0 0,.int .i64 0] 70)).heap.size=w.heap.size+1:=Array.size_push _
  have hvv:∀ t i,r=.ok (t,i)→EV w4 (fun b=>w.heap.size+1≤b) t [.int .i64 k',.int .i64 n',.string s',.slice a' l' c',.int .i64 p']:=by
   intro t i e
   have:=hv t i e
   rw [hsz1] at this
   exact this
  have HV:=Lib.hid hvv
  clear hv o4 hsz1 hvv
  go_upto_region 4 with (fail)
  have o5:Only [] w4 (w4.alloc (.cells #[.int .i64 k',.int .i64 n',.string s',.slice a' l' c',.int .i64 p'] 70)):=(Only.refl _ _).alloc _
  have hX5:=heap_new w4 (.cells #[.int .i64 k',.int .i64 n',.string s',.slice a' l' c',.int .i64 p'] 70)
  generalize w4.alloc (.cells #[.int .i64 k',.int .i64 n',.string s',.slice a' l' c',.int .i64 p'] 70)=w5 at o5 hX5⊢
  have oD:Only [] w5 w5.drew:=(Only.refl [] w5).drew
  have hXd:=oD.heap hX5 (by simp)
  have hAd:=oD.heap (o5.heap hA4 (by simp)) (by simp)
  have HOd:=Lib.hid (o5.trans oD (by simp))
  have HO4:=Lib.hid o04
  have hne:w.heap.size < w4.heap.size:=(Array.getElem?_eq_some_iff.1 hA4).1
  clear o5 hX5 hA4 o04 oD
  refine wp_region_held_drew (S:=fun w'=>w'.cell? ⟨w4.heap.size,0,none⟩=some (.int .i64 k')∧w'.cell? ⟨w4.heap.size,1,none⟩=some (.int .i64 n')∧w'.cell? ⟨w4.heap.size,2,none⟩=some (.string s')∧w'.cell? ⟨w4.heap.size,3,none⟩=some (.slice a' l' c')∧w'.cell? ⟨w4.heap.size,4,none⟩=some (.int .i64 p')) (by kernel_rfl) ⟨cell_at 0 hXd,cell_at 1 hXd,cell_at 2 hXd,cell_at 3 hXd,cell_at 4 hXd⟩ (fun hH=>?_)
  have HXd:=Lib.hid hXd
  have HAd:=Lib.hid hAd
  clear hXd hAd
  generalize w5.drew=wd at HXd HAd HOd hH⊢
  refine take_list (i:=0) (v:=?_) rfl (by kernel_rfl) (by kernel_rfl) (by kernel_rfl) (fun _ _ _ h=>h) (Or.inl ⟨by rfl,?_⟩) hH ?_
  rotate_left
  ·((intro w hSw;(try dsimp only at hSw);go_simp);try with_reducible rfl)
  simp only [Act.put,List.setIfInBounds_toArray,List.set_cons_zero,List.set_cons_succ]
  refine take_list (i:=1) (v:=?_) rfl (by kernel_rfl) (by kernel_rfl) (by kernel_rfl) (fun _ _ _ h=>h) (Or.inl ⟨by rfl,?_⟩) hH ?_
  rotate_left
  ·((intro w hSw;(try dsimp only at hSw);go_simp);try with_reducible rfl)
  simp only [Act.put,List.setIfInBounds_toArray,List.set_cons_zero,List.set_cons_succ]
  refine take_list (i:=2) (v:=?_) rfl (by kernel_rfl) (by kernel_rfl) (by kernel_rfl) (fun _ _ _ h=>h) (Or.inl ⟨by rfl,?_⟩) hH ?_
  rotate_left
  ·((intro w hSw;(try dsimp only at hSw);go_simp);try with_reducible rfl)
  simp only [Act.put,List.setIfInBounds_toArray,List.set_cons_zero,List.set_cons_succ]
  refine take_list (i:=3) (v:=?_) rfl (by kernel_rfl) (by kernel_rfl) (by kernel_rfl) (fun _ _ _ h=>h) (Or.inl ⟨by rfl,?_⟩) hH ?_
  rotate_left
  ·((intro w hSw;(try dsimp only at hSw);go_simp);try with_reducible rfl)
  simp only [Act.put,List.setIfInBounds_toArray,List.set_cons_zero,List.set_cons_succ]
  refine wpAnyH_ready (rs:=[4]) (by kernel_rfl) (by simp) ?_
  refine ready_list rfl (fun K hK=>?_)
  go_simp
  refine (HKC.out _ (HO4.out.trans HOd.out (by simp))).mono ?_
  rintro e w' ⟨rfl,rfl⟩
  refine hK.out _ _ hH (fun hH=>?_)
  clear hK K
  have s0:wd.cell? ⟨w.heap.size,0,none⟩=some (.int .i64 0):=cell_at 0 HAd.out
  have s1:wd.cell? ⟨w.heap.size,1,none⟩=some (.int .i64 0):=cell_at 1 HAd.out
  have s2:wd.cell? ⟨w.heap.size,2,none⟩=some (.string ⟨#[]⟩):=cell_at 2 HAd.out
  have s3:wd.cell? ⟨w.heap.size,3,none⟩=some (.slice none 0 0):=cell_at 3 HAd.out
  have s4:wd.cell? ⟨w.heap.size,4,none⟩=some (.int .i64 0):=cell_at 4 HAd.out
  have gs0:=free_at 0 HAd.out
  have gs1:=free_at 1 HAd.out
  have gs2:=free_at 2 HAd.out
  have gs3:=free_at 3 HAd.out
  have gs4:=free_at 4 HAd.out
  clear hH
  refine wpAnyH_ready (rs:=[5]) (by kernel_rfl) (by simp) ?_
  refine ready_list rfl (fun K hK=>?_)
  go_simp
  have oz:Only [w.heap.size] wd (((((wd.setCell ⟨w.heap.size,0,none⟩ (.int .i64 k')).setCell ⟨w.heap.size,1,none⟩ (.int .i64 n')).setCell ⟨w.heap.size,2,none⟩ (.string s')).setCell ⟨w.heap.size,3,none⟩ (.slice a' l' c')).setCell ⟨w.heap.size,4,none⟩ (.int .i64 p')):=
   (((((Only.refl _ _).setCell (.inl (by simp)) _).setCell (.inl (by simp)) _).setCell (.inl (by simp)) _).setCell (.inl (by simp)) _).setCell (.inl (by simp)) _
  have hz:=five_set HAd.out (.int .i64 k') (.int .i64 n') (.string s') (.slice a' l' c') (.int .i64 p')
  have hXz:=oz.heap HXd.out (by simp;omega)
  generalize ((((wd.setCell ⟨w.heap.size,0,none⟩ (.int .i64 k')).setCell ⟨w.heap.size,1,none⟩ (.int .i64 n')).setCell ⟨w.heap.size,2,none⟩ (.string s')).setCell ⟨w.heap.size,3,none⟩ (.slice a' l' c')).setCell ⟨w.heap.size,4,none⟩ (.int .i64 p')=wz at oz hz hXz⊢
  have HOz:=Lib.hid oz
  have HZ:=Lib.hid hz
  refine hK.out _ _ ⟨cell_at 0 hXz,cell_at 1 hXz,cell_at 2 hXz,cell_at 3 hXz,cell_at 4 hXz⟩ (fun hH=>?_)
  clear hK K hz hXz oz s0 s1 s2 s3 s4 gs0 gs1 gs2 gs3 gs4
  refine take_list (i:=6) (v:=?_) rfl (by kernel_rfl) (by kernel_rfl) (by kernel_rfl) (fun _ _ _ h=>h) (Or.inl ⟨by rfl,?_⟩) hH ?_
  rotate_left
  ·((intro w hSw;(try dsimp only at hSw);go_simp);try with_reducible rfl)
  simp only [Act.put,List.setIfInBounds_toArray,List.set_cons_zero,List.set_cons_succ]
  refine wpAnyH_done (by kernel_rfl) ?_ _
  clear hH
  go_wp2_with fail
  (try simp only [Exit.inBlock,Exit.then])
  refine bodyPost_ret (res_around _ _ w.heap.size _ _ _ _ _ (.int .i64 zc) rfl rfl HZ.out) rfl ?_
  refine ⟨k',n',s',a',l',c',p',by rw [HCz.out],fun t i e=>?_,?_⟩
  ·obtain ⟨a2,ha2⟩:=HCo.out t i e
   refine EV.kept (S:=[w.heap.size]) ((HOd.out.mono (T:=[w.heap.size]) (by simp)).trans HOz.out (fun k hk=>.inl hk)) (fun k hk hB=>?_) (fun b hb=>?_) t _ (HV.out t a2 ha2)
   ·rw [List.mem_singleton.1 hk] at hB
    omega
   ·show w.heap.size≤b
    have:w.heap.size+1≤b:=hb
    omega
  ·exact ((HO4.out.trans HOd.out (by simp)).trans (T:=[w.heap.size]) HOz.out (fun k hk=>.inr (by rw [List.mem_singleton.1 hk];exact Nat.le_refl _)))
end
end Go.Proofs.Ytiaeagpepfmfgaa
