import Derived.Test.YtheanmadognhbaaGreatDoorHar
import Derived.ChangeMaps5
import Derived.ChangeKeysEq
import Derived.BigQuiet
namespace Go.Proofs.YtheanmadognhbaaGreatDoor
open Go.RowKit Go.Maps
set_option linter.unusedSimpArgs false
set_option linter.unusedVariables false
theorem fields_instr:(Tryz.prog.fieldsOf 51).toList.map (fun f=>(f.name == "_",f.type,f.offset))=[(false,3,0),(false,3,1)]:=by kernel_rfl
theorem fields_loop:(Tryz.prog.fieldsOf 55).toList.map (fun f=>(f.name == "_",f.type,f.offset))=[(false,3,0),(false,3,1),(false,3,2),(false,3,3)]:=by kernel_rfl
theorem only_drewE {S:List Nat} {a w:World} {n:Nat} (h:Only S a w):Only S a (w.drewN n):=⟨h.os,h.tape,h.output,h.size,h.block⟩
def eqI (x y:Ins):Bool:=(x.1 == y.1) && (x.2 == y.2)
def eqL (x y:Lp):Bool:=(x.loc == y.loc) && ((x.n == y.n) && ((x.fr == y.fr) && (x.lst == y.lst)))
theorem equal_instr (a b c d:Int) (w:World):(Op.equalIn 10000 51 (.agg #[.int .i64 a,.int .i64 b]) (.agg #[.int .i64 c,.int .i64 d])).run Tryz.prog w=.ok (eqI (a,b) (c,d)) w:=by
 have p0:∀ (x y:Int) w,(part 3 #[.int .i64 x,.int .i64 y] 0).run Tryz.prog w=.ok (.int .i64 x) w:=fun x y w=>by simp [part,isAgg,run_underlying Tryz.underlying3]
 have p1:∀ (x y:Int) w,(part 3 #[.int .i64 x,.int .i64 y] 1).run Tryz.prog w=.ok (.int .i64 y) w:=fun x y w=>by simp [part,isAgg,run_underlying Tryz.underlying3]
 rw [show (10000:Nat)=9998+2 from rfl,run_equalIn_struct w (9998+1) 51 _ _ (by kernel_rfl) (by kernel_rfl)]
 have hf:=fields_instr
 generalize (Tryz.prog.fieldsOf 51).toList=fs at hf⊢
 rcases fs with _ | ⟨f0,_ | ⟨f1,_ | ⟨f2,r⟩⟩⟩
 ·simp at hf
 ·simp at hf
 ·simp only [List.map_cons,List.map_nil,List.cons.injEq,Prod.mk.injEq,beq_eq_false_iff_ne,ne_eq,and_true] at hf
  obtain ⟨⟨a1,a2,a3⟩,b1,b2,b3⟩:=hf
  simp only [Op.eqFields,ne_eq,a1,b1,not_false_eq_true,if_true,a2,a3,b2,b3,Sem.run_bind,Sem.run_ite,p0,p1,Result.andThen_ok,run_equalIn_int w 9998 3 .i64 .i64 _ _ Tryz.underlying3]
  unfold eqI
  dsimp only
  cases a == c<;>cases b == d<;>simp
 ·simp at hf
theorem equal_loop (x y:Lp) (w:World):(Op.equalIn 10000 55 (.agg #[.int .i64 x.loc,.int .i64 x.n,.int .i64 x.fr,.int .i64 x.lst]) (.agg #[.int .i64 y.loc,.int .i64 y.n,.int .i64 y.fr,.int .i64 y.lst])).run Tryz.prog w=.ok (eqL x y) w:=by
 obtain ⟨m0,m1,m2,m3⟩:=x
 obtain ⟨n0,n1,n2,n3⟩:=y
 have p0:∀ (a b c d:Int) w,(part 3 #[.int .i64 a,.int .i64 b,.int .i64 c,.int .i64 d] 0).run Tryz.prog w=.ok (.int .i64 a) w:=fun a b c d w=>by simp [part,isAgg,run_underlying Tryz.underlying3]
 have p1:∀ (a b c d:Int) w,(part 3 #[.int .i64 a,.int .i64 b,.int .i64 c,.int .i64 d] 1).run Tryz.prog w=.ok (.int .i64 b) w:=fun a b c d w=>by simp [part,isAgg,run_underlying Tryz.underlying3]
 have p2:∀ (a b c d:Int) w,(part 3 #[.int .i64 a,.int .i64 b,.int .i64 c,.int .i64 d] 2).run Tryz.prog w=.ok (.int .i64 c) w:=fun a b c d w=>by simp [part,isAgg,run_underlying Tryz.underlying3]
 have p3:∀ (a b c d:Int) w,(part 3 #[.int .i64 a,.int .i64 b,.int .i64 c,.int .i64 d] 3).run Tryz.prog w=.ok (.int .i64 d) w:=fun a b c d w=>by simp [part,isAgg,run_underlying Tryz.underlying3]
 rw [show (10000:Nat)=9998+2 from rfl,run_equalIn_struct w (9998+1) 55 _ _ (by kernel_rfl) (by kernel_rfl)]
 have hf:=fields_loop
 generalize (Tryz.prog.fieldsOf 55).toList=fs at hf⊢
 rcases fs with _ | ⟨f0,_ | ⟨f1,_ | ⟨f2,_ | ⟨f3,_ | ⟨f4,r⟩⟩⟩⟩⟩
 ·simp at hf
 ·simp at hf
 ·simp at hf
 ·simp at hf
 ·simp only [List.map_cons,List.map_nil,List.cons.injEq,Prod.mk.injEq,beq_eq_false_iff_ne,ne_eq,and_true] at hf
  obtain ⟨⟨a1,a2,a3⟩,⟨b1,b2,b3⟩,⟨c1,c2,c3⟩,d1,d2,d3⟩:=hf
  simp only [Op.eqFields,ne_eq,a1,b1,c1,d1,not_false_eq_true,if_true,a2,a3,b2,b3,c2,c3,d2,d3,Sem.run_bind,Sem.run_ite,p0,p1,p2,p3,Result.andThen_ok,run_equalIn_int w 9998 3 .i64 .i64 _ _ Tryz.underlying3]
  unfold eqL
  dsimp only
  cases m0 == n0<;>cases m1 == n1<;>cases m2 == n2<;>cases m3 == n3<;>simp
 ·simp at hf
theorem neq_instr (x y:Ins) (w:World):(binOp .neq 51 (.agg #[.int .i64 x.1,.int .i64 x.2]) (.agg #[.int .i64 y.1,.int .i64 y.2])).run Tryz.prog w=.ok (.bool (!eqI x y)) w:=by
 rw [run_neq_struct,equal_instr,Result.andThen_ok]
theorem neq_loop (x y:Lp) (w:World):(binOp .neq 55 (.agg #[.int .i64 x.loc,.int .i64 x.n,.int .i64 x.fr,.int .i64 x.lst]) (.agg #[.int .i64 y.loc,.int .i64 y.n,.int .i64 y.fr,.int .i64 y.lst])).run Tryz.prog w=.ok (.bool (!eqL x y)) w:=by
 rw [run_neq_struct,equal_loop,Result.andThen_ok]
theorem eqI_iff {x y:Ins}:eqI x y=true↔x=y:=by
 obtain ⟨a,b⟩:=x
 obtain ⟨c,d⟩:=y
 simp [eqI]
theorem eqL_iff {x y:Lp}:eqL x y=true↔x=y:=by
 obtain ⟨a,b,c,d⟩:=x
 obtain ⟨e,f,g,h⟩:=y
 simp [eqL]
theorem RV.at_ {α:Type} {R:RowT α} {w:World} {a:Option Addr} {n cap:Nat} {l:List α} (h:RV R w (.slice a n cap) l) {i:Nat} {x:α} (hx:l[i]?=some x):∃ g off,a=some ⟨g,off,none⟩∧∀ j u,(R.en x)[j]?=some u→w.cell? ⟨g,off+i*R.k+j,none⟩=some u:=by
 obtain ⟨a',cap',e,h1⟩:=h
 injection e with e1 e2 e3
 subst e1
 rcases h1 with rfl | ⟨g,off,rfl,hh⟩
 ·simp at hx
 ·exact ⟨g,off,rfl,fun j u hu=>hh i x hx j u hu⟩
theorem RV.len_ {α:Type} {R:RowT α} {w:World} {a:Option Addr} {n cap:Nat} {l:List α} (h:RV R w (.slice a n cap) l):n=l.length:=by
 obtain ⟨a',cap',e,h1⟩:=h
 injection e
theorem take_snoc_eq {α:Type} {l m:List α} {k:Nat} {x:α} (h:l.take k=m.take k) (h1:l[k]?=some x) (h2:m[k]?=some x):l.take (k+1)=m.take (k+1):=by
 rw [List.take_add_one,List.take_add_one,h,h1,h2]
set_option maxRecDepth 100000 in
set_option maxHeartbeats 4000000 in
theorem equalI_any {w:World} {v u:Value} {l m:List Ins} (hv:RV rI w v l) (hu:RV rI w u m) (hl:l.length≤9223372036854775807) (hm:m.length≤9223372036854775807) {q:Bool} (hq:q=true↔l=m) :
  Calls Tryz.prog 38 #[v,u] w fun e w'=>e=.returned (.bool q)∧Only [] w w':=by
 obtain ⟨a1,c1,rfl,-⟩:=id hv
 obtain ⟨a2,c2,rfl,-⟩:=id hu
 have HV:=Hd hv
 have HU:=Hd hu
 obtain ⟨n,hn⟩:∃ n,n=l.length:=⟨_,rfl⟩
 obtain ⟨k,hk⟩:∃ k,k=m.length:=⟨_,rfl⟩
 rw [← hn] at hl HV⊢
 rw [← hk] at hm HU⊢
 have HN:=Hd hn
 have HK:=Hd hk
 clear hv hu hn hk
 have HQ:=Hd hq
 clear hq
 go_enter Tryz.func38,Tryz.ntmps38
 by_cases hnk:n=k
 ·subst hnk
  go_wp2_with fail
  go_loopw [13] (fun ix wr=>∃ j:Nat,j≤n∧ix=.int .i64 (j:Int)∧Hid (l.take j=m.take j)∧Hid (Only [] w wr)) (fun ix _=>n - (intOf ix).toNat)
  case atStart=>exact ⟨0,Nat.zero_le _,rfl,Hd (by rw [List.take_zero,List.take_zero]),Hd (Only.refl _ _)⟩
  case round=>
   obtain ⟨j,hjn,rfl,HT,HO⟩:=hrel
   by_cases hlt:j < n
   ·have hlt':(j:Int) < (n:Int):=by omega
    have j0:(0:Int)≤(j:Int):=by omega
    obtain ⟨x,hx⟩:∃ x,l[j]?=some x:=⟨_,List.getElem?_eq_getElem (by rw [← HN.out];exact hlt)⟩
    obtain ⟨y,hy⟩:∃ y,m[j]?=some y:=⟨_,List.getElem?_eq_getElem (by rw [← HK.out];exact hlt)⟩
    obtain ⟨g1,o1,rfl,zc⟩:=(HV.out.quiet HO.out).at_ hx
    obtain ⟨g2,o2,rfl,uc⟩:=(HU.out.quiet HO.out).at_ hy
    have z0:wr.cell? ⟨g1,o1+j*2,none⟩=some (.int .i64 x.1):=zc 0 _ rfl
    have z1:wr.cell? ⟨g1,o1+j*2+1,none⟩=some (.int .i64 x.2):=zc 1 _ rfl
    have u0:wr.cell? ⟨g2,o2+j*2,none⟩=some (.int .i64 y.1):=uc 0 _ rfl
    have u1:wr.cell? ⟨g2,o2+j*2+1,none⟩=some (.int .i64 y.2):=uc 1 _ rfl
    have HX:=Hd hx
    have HY:=Hd hy
    have NQ:=neq_instr x y
    clear hx hy zc uc
    cases he:eqI x y with
    | true=>
     rw [he] at NQ
     have hxy:=eqI_iff.1 he
     have HE:=Hd hxy
     clear he hxy
     go_wp2_with fail
     go_quiet (fail)
     go_wp2_with fail
     go_roundw
     case rel=>exact ⟨j+1,by omega,by simp,Hd (take_snoc_eq HT.out HX.out (HY.out.trans (by rw [HE.out]))),Hd (HO.out.trans (only_drewE (S:=[]) (Only.refl _ _)) (by simp))⟩
     case measure=>simp [intOf];omega
    | false=>
     rw [he] at NQ
     have hne:q=false:=by
      rw [Bool.eq_false_iff,ne_eq,HQ.out]
      intro e
      have h1:=HX.out
      rw [e,HY.out] at h1
      obtain rfl:y=x:=by simpa using h1
      rw [eqI_iff.2 rfl] at he
      cases he
     have HE:=Hd hne
     clear he hne
     go_wp2_with fail
     go_quiet (fail)
     go_wp2_with fail
     go_ret
     exact ⟨by rw [HE.out]<;>rfl,HO.out.trans (only_drewE (S:=[]) (Only.refl _ _)) (by simp)⟩
   ·obtain rfl:j=n:=by omega
    have HE:=Hd (show q=true by
     rw [HQ.out]
     have:=HT.out
     rwa [List.take_of_length_le (by rw [← HN.out];exact Nat.le_refl _),List.take_of_length_le (by rw [← HK.out];exact Nat.le_refl _)] at this)
    go_wp2_with fail
    go_ret
    exact ⟨by rw [HE.out]<;>rfl,HO.out⟩
 ·have HE:=Hd (show q=false by
   rw [Bool.eq_false_iff,ne_eq,HQ.out]
   intro e
   exact hnk (by rw [HN.out,HK.out,e]))
  go_wp2_with fail
  go_ret
  exact ⟨by rw [HE.out]<;>rfl,Only.refl _ _⟩
set_option maxRecDepth 100000 in
set_option maxHeartbeats 4000000 in
theorem equalL_any {w:World} {v u:Value} {l m:List Lp} (hv:RV rL w v l) (hu:RV rL w u m) (hl:l.length≤9223372036854775807) (hm:m.length≤9223372036854775807) {q:Bool} (hq:q=true↔l=m) :
  Calls Tryz.prog 39 #[v,u] w fun e w'=>e=.returned (.bool q)∧Only [] w w':=by
 obtain ⟨a1,c1,rfl,-⟩:=id hv
 obtain ⟨a2,c2,rfl,-⟩:=id hu
 have HV:=Hd hv
 have HU:=Hd hu
 obtain ⟨n,hn⟩:∃ n,n=l.length:=⟨_,rfl⟩
 obtain ⟨k,hk⟩:∃ k,k=m.length:=⟨_,rfl⟩
 rw [← hn] at hl HV⊢
 rw [← hk] at hm HU⊢
 have HN:=Hd hn
 have HK:=Hd hk
 clear hv hu hn hk
 have HQ:=Hd hq
 clear hq
 go_enter Tryz.func39,Tryz.ntmps39
 by_cases hnk:n=k
 ·subst hnk
  go_wp2_with fail
  go_loopw [13] (fun ix wr=>∃ j:Nat,j≤n∧ix=.int .i64 (j:Int)∧Hid (l.take j=m.take j)∧Hid (Only [] w wr)) (fun ix _=>n - (intOf ix).toNat)
  case atStart=>exact ⟨0,Nat.zero_le _,rfl,Hd (by rw [List.take_zero,List.take_zero]),Hd (Only.refl _ _)⟩
  case round=>
   obtain ⟨j,hjn,rfl,HT,HO⟩:=hrel
   by_cases hlt:j < n
   ·have hlt':(j:Int) < (n:Int):=by omega
    have j0:(0:Int)≤(j:Int):=by omega
    obtain ⟨x,hx⟩:∃ x,l[j]?=some x:=⟨_,List.getElem?_eq_getElem (by rw [← HN.out];exact hlt)⟩
    obtain ⟨y,hy⟩:∃ y,m[j]?=some y:=⟨_,List.getElem?_eq_getElem (by rw [← HK.out];exact hlt)⟩
    obtain ⟨g1,o1,rfl,zc⟩:=(HV.out.quiet HO.out).at_ hx
    obtain ⟨g2,o2,rfl,uc⟩:=(HU.out.quiet HO.out).at_ hy
    have z0:wr.cell? ⟨g1,o1+j*4,none⟩=some (.int .i64 x.loc):=zc 0 _ rfl
    have z1:wr.cell? ⟨g1,o1+j*4+1,none⟩=some (.int .i64 x.n):=zc 1 _ rfl
    have z2:wr.cell? ⟨g1,o1+j*4+2,none⟩=some (.int .i64 x.fr):=zc 2 _ rfl
    have z3:wr.cell? ⟨g1,o1+j*4+3,none⟩=some (.int .i64 x.lst):=zc 3 _ rfl
    have u0:wr.cell? ⟨g2,o2+j*4,none⟩=some (.int .i64 y.loc):=uc 0 _ rfl
    have u1:wr.cell? ⟨g2,o2+j*4+1,none⟩=some (.int .i64 y.n):=uc 1 _ rfl
    have u2:wr.cell? ⟨g2,o2+j*4+2,none⟩=some (.int .i64 y.fr):=uc 2 _ rfl
    have u3:wr.cell? ⟨g2,o2+j*4+3,none⟩=some (.int .i64 y.lst):=uc 3 _ rfl
    have HX:=Hd hx
    have HY:=Hd hy
    have NQ:=neq_loop x y
    clear hx hy zc uc
    cases he:eqL x y with
    | true=>
     rw [he] at NQ
     have hxy:=eqL_iff.1 he
     have HE:=Hd hxy
     clear he hxy
     go_wp2_with fail
     go_quiet (fail)
     go_wp2_with fail
     go_roundw
     case rel=>exact ⟨j+1,by omega,by simp,Hd (take_snoc_eq HT.out HX.out (HY.out.trans (by rw [HE.out]))),Hd (HO.out.trans (only_drewE (S:=[]) (Only.refl _ _)) (by simp))⟩
     case measure=>simp [intOf];omega
    | false=>
     rw [he] at NQ
     have hne:q=false:=by
      rw [Bool.eq_false_iff,ne_eq,HQ.out]
      intro e
      have h1:=HX.out
      rw [e,HY.out] at h1
      obtain rfl:y=x:=by simpa using h1
      rw [eqL_iff.2 rfl] at he
      cases he
     have HE:=Hd hne
     clear he hne
     go_wp2_with fail
     go_quiet (fail)
     go_wp2_with fail
     go_ret
     exact ⟨by rw [HE.out]<;>rfl,HO.out.trans (only_drewE (S:=[]) (Only.refl _ _)) (by simp)⟩
   ·obtain rfl:j=n:=by omega
    have HE:=Hd (show q=true by
     rw [HQ.out]
     have:=HT.out
     rwa [List.take_of_length_le (by rw [← HN.out];exact Nat.le_refl _),List.take_of_length_le (by rw [← HK.out];exact Nat.le_refl _)] at this)
    go_wp2_with fail
    go_ret
    exact ⟨by rw [HE.out]<;>rfl,HO.out⟩
 ·have HE:=Hd (show q=false by
   rw [Bool.eq_false_iff,ne_eq,HQ.out]
   intro e
   exact hnk (by rw [HN.out,HK.out,e]))
  go_wp2_with fail
  go_ret
  exact ⟨by rw [HE.out]<;>rfl,Only.refl _ _⟩
def CdA (p q:Int) (v u:Value):Value:=.agg #[.int .i64 p,.int .i64 q,v,u]
set_option maxRecDepth 100000 in
set_option maxHeartbeats 4000000 in
theorem same_any {w:World} {p1 q1 p2 q2:Int} {v1 u1 v2 u2:Value} {l1 l2:List Ins} {m1 m2:List Lp} (hv1:RV rI w v1 l1) (hu1:RV rL w u1 m1) (hv2:RV rI w v2 l2) (hu2:RV rL w u2 m2)
  (k1:l1.length≤9223372036854775807) (k2:m1.length≤9223372036854775807) (k3:l2.length≤9223372036854775807) (k4:m2.length≤9223372036854775807) {q:Bool} (hq:q=true↔p1=p2∧q1=q2∧l1=l2∧m1=m2) :
  Calls Tryz.prog 18 #[CdA p1 q1 v1 u1,CdA p2 q2 v2 u2] w fun e w'=>e=.returned (.bool q)∧Only [] w w':=by
 have HQ:=Hd hq
 have KE:∀ w',Only [] w w'→∀ {b:Bool},(b=true↔l1=l2)→Calls Tryz.prog 38 #[v1,v2] w' fun e w''=>e=.returned (.bool b)∧Only [] w' w'':=fun w' o b hb=>equalI_any (hv1.quiet o) (hv2.quiet o) k1 k3 hb
 have KL:∀ w',Only [] w w'→∀ {b:Bool},(b=true↔m1=m2)→Calls Tryz.prog 39 #[u1,u2] w' fun e w''=>e=.returned (.bool b)∧Only [] w' w'':=fun w' o b hb=>equalL_any (hu1.quiet o) (hu2.quiet o) k2 k4 hb
 obtain ⟨a1,c1,rfl,-⟩:=id hv1
 obtain ⟨a2,c2,rfl,-⟩:=id hv2
 obtain ⟨a3,c3,rfl,-⟩:=id hu1
 obtain ⟨a4,c4,rfl,-⟩:=id hu2
 generalize l1.length=n1 at *
 generalize l2.length=n2 at *
 generalize m1.length=n3 at *
 generalize m2.length=n4 at *
 have K1:=Hd KE
 have K2:=Hd KL
 have oa:=((Only.refl [] w).alloc (.cells #[.int .i64 p1,.int .i64 q1,.slice a1 n1 c1,.slice a3 n3 c3] 33)).alloc (.cells #[.int .i64 p2,.int .i64 q2,.slice a2 n2 c2,.slice a4 n4 c4] 33)
 have HO:=Hd oa
 have r1:=heap_new w (.cells #[.int .i64 p1,.int .i64 q1,.slice a1 n1 c1,.slice a3 n3 c3] 33)
 have r2:=heap_new (w.alloc (.cells #[.int .i64 p1,.int .i64 q1,.slice a1 n1 c1,.slice a3 n3 c3] 33)) (.cells #[.int .i64 p2,.int .i64 q2,.slice a2 n2 c2,.slice a4 n4 c4] 33)
 rw [show (w.alloc (.cells #[.int .i64 p1,.int .i64 q1,.slice a1 n1 c1,.slice a3 n3 c3] 33)).heap.size=w.heap.size+1 from World.size_alloc _ _] at r2
 have R1:=Hd (((Only.refl [] _).alloc (.cells #[.int .i64 p2,.int .i64 q2,.slice a2 n2 c2,.slice a4 n4 c4] 33)).heap r1 (by simp))
 have R2:=Hd r2
 clear hv1 hv2 hu1 hu2 k1 k2 k3 k4 hq KE KL oa r1 r2
 unfold CdA
 go_enter Tryz.func18,Tryz.ntmps18
 by_cases h1:p1=p2
 ·subst h1
  by_cases h2:q1=q2
  ·subst h2
   go_wp2_with fail
   refine (K1.out _ HO.out (b:=decide (l1=l2)) (by simp)).mono ?_
   rintro en w2 ⟨rfl,o2⟩
   have HO2:=Hd (HO.out.trans o2 (by simp))
   have y3:w2.cell? ⟨w.heap.size,3,none⟩=some (.slice a3 n3 c3):=cell_at 3 (o2.heap R1.out (by simp))
   have z3:w2.cell? ⟨w.heap.size+1,3,none⟩=some (.slice a4 n4 c4):=cell_at 3 (o2.heap R2.out (by simp))
   clear o2
   by_cases h3:l1=l2
   ·have HE:=Hd h3
    have y0:decide (l1=l2)=true:=by simpa using h3
    rw [y0]
    clear h3 y0
    go_wp2_with fail
    obtain ⟨b,hb⟩:∃ b:Bool,b=true↔m1=m2:=⟨@decide (m1=m2) (Classical.propDecidable _),by simp⟩
    have HB:=Hd hb
    refine (K2.out _ HO2.out (b:=b) hb).mono ?_
    rintro en w3 ⟨rfl,o3⟩
    clear hb
    go_wp2_with fail
    go_ret
    refine ⟨?_,HO2.out.trans o3 (by simp)⟩
    have:b=q:=by rw [Bool.eq_iff_iff,HB.out,HQ.out];simp [HE.out]
    rw [this]<;>rfl
   ·have HE:=Hd h3
    have y0:decide (l1=l2)=false:=by simpa using h3
    rw [y0]
    clear h3 y0
    go_wp2_with fail
    go_ret
    refine ⟨?_,HO2.out⟩
    have:q=false:=by rw [Bool.eq_false_iff,ne_eq,HQ.out];exact fun e=>HE.out e.2.2.1
    rw [this]<;>rfl
  ·have HE:=Hd h2
   go_wp2_with fail
   go_ret
   refine ⟨?_,HO.out⟩
   have:q=false:=by rw [Bool.eq_false_iff,ne_eq,HQ.out];exact fun e=>HE.out e.2.1
   rw [this]<;>rfl
 ·have HE:=Hd h1
  go_wp2_with fail
  go_ret
  refine ⟨?_,HO.out⟩
  have:q=false:=by rw [Bool.eq_false_iff,ne_eq,HQ.out];exact fun e=>HE.out e.1
  rw [this]<;>rfl
set_option maxRecDepth 100000 in
set_option maxHeartbeats 4000000 in
theorem rsame_any {w:World} {p1 q1 p2 q2:Int} {v1 u1 v2 u2:Value} {l1 l2:List Ins} {m1 m2:List Lp} (hv1:RV rI w v1 l1) (hu1:RV rL w u1 m1) (hv2:RV rI w v2 l2) (hu2:RV rL w u2 m2)
  (k1:l1.length≤9223372036854775807) (k2:m1.length≤9223372036854775807) (k3:l2.length≤9223372036854775807) (k4:m2.length≤9223372036854775807) {q:Bool} (hq:q=true↔p1=p2∧q1=q2∧l1=l2∧m1=m2) :
  Calls Tryz.prog 13 #[CdA p1 q1 v1 u1,CdA p2 q2 v2 u2] w fun e w'=>e=.returned (.bool q)∧Only [] w w':=by
 have HQ:=Hd hq
 obtain ⟨a1,c1,rfl,-⟩:=id hv1
 obtain ⟨a2,c2,rfl,-⟩:=id hv2
 obtain ⟨a3,c3,rfl,-⟩:=id hu1
 obtain ⟨a4,c4,rfl,-⟩:=id hu2
 have V1:=Hd hv1
 have V2:=Hd hv2
 have U1:=Hd hu1
 have U2:=Hd hu2
 obtain ⟨n1,hn1⟩:∃ n,n=l1.length:=⟨_,rfl⟩
 obtain ⟨n2,hn2⟩:∃ n,n=l2.length:=⟨_,rfl⟩
 obtain ⟨n3,hn3⟩:∃ n,n=m1.length:=⟨_,rfl⟩
 obtain ⟨n4,hn4⟩:∃ n,n=m2.length:=⟨_,rfl⟩
 rw [← hn1] at k1 V1⊢
 rw [← hn2] at k3 V2⊢
 rw [← hn3] at k2 U1⊢
 rw [← hn4] at k4 U2⊢
 have N1:=Hd hn1
 have N2:=Hd hn2
 have N3:=Hd hn3
 have N4:=Hd hn4
 have oa:=((Only.refl [] w).alloc (.cells #[.int .i64 p1,.int .i64 q1,.slice a1 n1 c1,.slice a3 n3 c3] 33)).alloc (.cells #[.int .i64 p2,.int .i64 q2,.slice a2 n2 c2,.slice a4 n4 c4] 33)
 have OA:=Hd oa
 have r1:=heap_new w (.cells #[.int .i64 p1,.int .i64 q1,.slice a1 n1 c1,.slice a3 n3 c3] 33)
 have r2:=heap_new (w.alloc (.cells #[.int .i64 p1,.int .i64 q1,.slice a1 n1 c1,.slice a3 n3 c3] 33)) (.cells #[.int .i64 p2,.int .i64 q2,.slice a2 n2 c2,.slice a4 n4 c4] 33)
 rw [show (w.alloc (.cells #[.int .i64 p1,.int .i64 q1,.slice a1 n1 c1,.slice a3 n3 c3] 33)).heap.size=w.heap.size+1 from World.size_alloc _ _] at r2
 have R1:=Hd (((Only.refl [] _).alloc (.cells #[.int .i64 p2,.int .i64 q2,.slice a2 n2 c2,.slice a4 n4 c4] 33)).heap r1 (by simp))
 have R2:=Hd r2
 obtain ⟨G,hG⟩:∃ G,G=w.heap.size:=⟨_,rfl⟩
 rw [← hG] at R1 R2
 have HG:=Hd hG
 clear hv1 hv2 hu1 hu2 hq oa r1 r2 hn1 hn2 hn3 hn4 hG
 unfold CdA
 go_enter Tryz.func13,Tryz.ntmps13
 by_cases h1:p1=p2∧q1=q2∧n1=n2∧n3=n4
 ·obtain ⟨rfl,rfl,rfl,rfl⟩:=h1
  go_upto_block 4 with (fail)
  rw [← HG.out]
  generalize (w.alloc (.cells #[.int .i64 p1,.int .i64 q1,.slice a1 n1 c1,.slice a3 n3 c3] 33)).alloc (.cells #[.int .i64 p1,.int .i64 q1,.slice a2 n1 c2,.slice a4 n3 c4] 33)=wa at *
  go_loopw [5] (fun ix wr=>∃ j:Nat,j≤n1∧ix=.int .i64 (j:Int)∧Hid (l1.take j=l2.take j)∧Hid (Only [] wa wr)) (fun ix _=>n1 - (intOf ix).toNat)
  case atStart=>exact ⟨0,Nat.zero_le _,rfl,Hd (by rw [List.take_zero,List.take_zero]),Hd (Only.refl _ _)⟩
  case round=>
   obtain ⟨j,hjn,rfl,HT,HO⟩:=hrel
   have yy:wr.cell? ⟨G,2,none⟩=some (.slice a1 n1 c1):=cell_at 2 (HO.out.heap R1.out (by simp))
   have zz:wr.cell? ⟨G+1,2,none⟩=some (.slice a2 n1 c2):=cell_at 2 (HO.out.heap R2.out (by simp))
   by_cases hlt:j < n1
   ·have hlt':(j:Int) < (n1:Int):=by omega
    have j0:(0:Int)≤(j:Int):=by omega
    obtain ⟨x,hx⟩:∃ x,l1[j]?=some x:=⟨_,List.getElem?_eq_getElem (by rw [← N1.out];exact hlt)⟩
    obtain ⟨y,hy⟩:∃ y,l2[j]?=some y:=⟨_,List.getElem?_eq_getElem (by rw [← N2.out];exact hlt)⟩
    obtain ⟨g1,o1,e1,zc⟩:=(V1.out.quiet (OA.out.trans HO.out (by simp))).at_ hx
    obtain ⟨g2,o2,e2,uc⟩:=(V2.out.quiet (OA.out.trans HO.out (by simp))).at_ hy
    rw [e1] at yy
    rw [e2] at zz
    have z0:wr.cell? ⟨g1,o1+j*2,none⟩=some (.int .i64 x.1):=zc 0 _ rfl
    have z1:wr.cell? ⟨g1,o1+j*2+1,none⟩=some (.int .i64 x.2):=zc 1 _ rfl
    have u0:wr.cell? ⟨g2,o2+j*2,none⟩=some (.int .i64 y.1):=uc 0 _ rfl
    have u1:wr.cell? ⟨g2,o2+j*2+1,none⟩=some (.int .i64 y.2):=uc 1 _ rfl
    have HX:=Hd hx
    have HY:=Hd hy
    have NQ:=neq_instr x y
    clear hx hy zc uc e1 e2
    cases he:eqI x y with
    | true=>
     rw [he] at NQ
     have hxy:=eqI_iff.1 he
     have HE:=Hd hxy
     clear he hxy
     go_wp2_with fail
     go_quiet (fail)
     go_wp2_with fail
     go_roundw
     case rel=>exact ⟨j+1,by omega,by simp,Hd (take_snoc_eq HT.out HX.out (HY.out.trans (by rw [HE.out]))),Hd (HO.out.trans (only_drewE (S:=[]) (Only.refl _ _)) (by simp))⟩
     case measure=>simp [intOf];omega
    | false=>
     rw [he] at NQ
     have hne:l1≠l2:=by
      intro e
      have h1:=HX.out
      rw [e,HY.out] at h1
      obtain rfl:y=x:=by simpa using h1
      rw [eqI_iff.2 rfl] at he
      cases he
     have HE:=Hd hne
     clear he hne
     go_wp2_with fail
     go_quiet (fail)
     go_wp2_with fail
     go_ret
     refine ⟨?_,OA.out.trans (HO.out.trans (only_drewE (S:=[]) (Only.refl _ _)) (by simp)) (by simp)⟩
     have:q=false:=by rw [Bool.eq_false_iff,ne_eq,HQ.out];exact fun e=>HE.out e.2.2.1
     rw [this]<;>rfl
   ·obtain rfl:j=n1:=by omega
    have HLM:=Hd (show l1=l2 by
     have:=HT.out
     rwa [List.take_of_length_le (by rw [← N1.out];exact Nat.le_refl _),List.take_of_length_le (by rw [← N2.out];exact Nat.le_refl _)] at this)
    clear hlt hjn
    have H1:=Hd HLM.out
    have O2:=Hd (OA.out.trans HO.out (by simp))
    have R3:=Hd (HO.out.heap R1.out (by simp))
    have R4:=Hd (HO.out.heap R2.out (by simp))
    have y3:wr.cell? ⟨G,3,none⟩=some (.slice a3 n3 c3):=cell_at 3 R3.out
    have z3:wr.cell? ⟨G+1,3,none⟩=some (.slice a4 n3 c4):=cell_at 3 R4.out
    clear HT HO HLM
    go_upto_block 9 with (fail)
    clear y3 z3 yy zz
    generalize wr=wm at *
    go_loopw [6] (fun ix wr=>∃ j:Nat,j≤n3∧ix=.int .i64 (j:Int)∧Hid (m1.take j=m2.take j)∧Hid (Only [] wm wr)) (fun ix _=>n3 - (intOf ix).toNat)
    case atStart=>exact ⟨0,Nat.zero_le _,rfl,Hd (by rw [List.take_zero,List.take_zero]),Hd (Only.refl _ _)⟩
    case round=>
     obtain ⟨j,hjn,rfl,HT,HO⟩:=hrel
     have yy:wr.cell? ⟨G,3,none⟩=some (.slice a3 n3 c3):=cell_at 3 (HO.out.heap R3.out (by simp))
     have zz:wr.cell? ⟨G+1,3,none⟩=some (.slice a4 n3 c4):=cell_at 3 (HO.out.heap R4.out (by simp))
     by_cases hlt:j < n3
     ·have hlt':(j:Int) < (n3:Int):=by omega
      have j0:(0:Int)≤(j:Int):=by omega
      obtain ⟨x,hx⟩:∃ x,m1[j]?=some x:=⟨_,List.getElem?_eq_getElem (by rw [← N3.out];exact hlt)⟩
      obtain ⟨y,hy⟩:∃ y,m2[j]?=some y:=⟨_,List.getElem?_eq_getElem (by rw [← N4.out];exact hlt)⟩
      obtain ⟨g1,o1,e1,zc⟩:=(U1.out.quiet (O2.out.trans HO.out (by simp))).at_ hx
      obtain ⟨g2,o2,e2,uc⟩:=(U2.out.quiet (O2.out.trans HO.out (by simp))).at_ hy
      rw [e1] at yy
      rw [e2] at zz
      have z0:wr.cell? ⟨g1,o1+j*4,none⟩=some (.int .i64 x.loc):=zc 0 _ rfl
      have z1:wr.cell? ⟨g1,o1+j*4+1,none⟩=some (.int .i64 x.n):=zc 1 _ rfl
      have z2:wr.cell? ⟨g1,o1+j*4+2,none⟩=some (.int .i64 x.fr):=zc 2 _ rfl
      have z3:wr.cell? ⟨g1,o1+j*4+3,none⟩=some (.int .i64 x.lst):=zc 3 _ rfl
      have u0:wr.cell? ⟨g2,o2+j*4,none⟩=some (.int .i64 y.loc):=uc 0 _ rfl
      have u1:wr.cell? ⟨g2,o2+j*4+1,none⟩=some (.int .i64 y.n):=uc 1 _ rfl
      have u2:wr.cell? ⟨g2,o2+j*4+2,none⟩=some (.int .i64 y.fr):=uc 2 _ rfl
      have u3:wr.cell? ⟨g2,o2+j*4+3,none⟩=some (.int .i64 y.lst):=uc 3 _ rfl
      have HX:=Hd hx
      have HY:=Hd hy
      have NQ:=neq_loop x y
      clear hx hy zc uc e1 e2
      cases he:eqL x y with
      | true=>
       rw [he] at NQ
       have hxy:=eqL_iff.1 he
       have HE:=Hd hxy
       clear he hxy
       go_wp2_with fail
       go_quiet (fail)
       go_wp2_with fail
       go_roundw
       case rel=>exact ⟨j+1,by omega,by simp,Hd (take_snoc_eq HT.out HX.out (HY.out.trans (by rw [HE.out]))),Hd (HO.out.trans (only_drewE (S:=[]) (Only.refl _ _)) (by simp))⟩
       case measure=>simp [intOf];omega
      | false=>
       rw [he] at NQ
       have hne:m1≠m2:=by
        intro e
        have h1:=HX.out
        rw [e,HY.out] at h1
        obtain rfl:y=x:=by simpa using h1
        rw [eqL_iff.2 rfl] at he
        cases he
       have HE:=Hd hne
       clear he hne
       go_wp2_with fail
       go_quiet (fail)
       go_wp2_with fail
       go_ret
       refine ⟨?_,O2.out.trans (HO.out.trans (only_drewE (S:=[]) (Only.refl _ _)) (by simp)) (by simp)⟩
       have:q=false:=by rw [Bool.eq_false_iff,ne_eq,HQ.out];exact fun e=>HE.out e.2.2.2
       rw [this]<;>rfl
     ·obtain rfl:j=n3:=by omega
      have HLM:=Hd (show m1=m2 by
       have:=HT.out
       rwa [List.take_of_length_le (by rw [← N3.out];exact Nat.le_refl _),List.take_of_length_le (by rw [← N4.out];exact Nat.le_refl _)] at this)
      clear hlt hjn
      go_wp2_with fail
      go_ret
      refine ⟨?_,O2.out.trans HO.out (by simp)⟩
      have:q=true:=HQ.out.2 ⟨by trivial,by trivial,H1.out,HLM.out⟩
      rw [this]<;>rfl
 ·have HE:=Hd h1
  have hqf:q=false:=by
   rw [Bool.eq_false_iff,ne_eq,HQ.out]
   intro e
   exact h1 ⟨e.1,e.2.1,by rw [N1.out,N2.out,e.2.2.1],by rw [N3.out,N4.out,e.2.2.2]⟩
  have HF:=Hd hqf
  clear hqf
  by_cases c1:p1=p2
  ·subst c1
   by_cases c2:q1=q2
   ·subst c2
    by_cases c3:n1=n2
    ·subst c3
     have c4:¬ n3=n4:=fun e=>h1 ⟨rfl,rfl,rfl,e⟩
     clear h1
     go_wp2_with fail
     go_ret
     exact ⟨by rw [HF.out]<;>rfl,OA.out⟩
    ·clear h1
     go_wp2_with fail
     go_ret
     exact ⟨by rw [HF.out]<;>rfl,OA.out⟩
   ·clear h1
    go_wp2_with fail
    go_ret
    exact ⟨by rw [HF.out]<;>rfl,OA.out⟩
  ·clear h1
   go_wp2_with fail
   go_ret
   exact ⟨by rw [HF.out]<;>rfl,OA.out⟩
end Go.Proofs.YtheanmadognhbaaGreatDoor
