import Derived.Test.YtheanmadognhbaaGreatDoorGas
import Derived.Deep.Cut
namespace Go.Proofs.YtheanmadognhbaaGreatDoor
open Go.RowKit Go.Maps
set_option linter.unusedSimpArgs false
set_option linter.unusedVariables false
section
variable {w w':World} {v:Value} {ts:List Tok}
set_option maxRecDepth 100000 in
set_option maxHeartbeats 16000000 in
theorem rsmall_step (f:Nat) (IS:SmallC ts f) (IA:AroundC ts f):SmallC ts (f+1):=by
 intro w v i dp h hi hf hdp
 obtain ⟨b,cap,rfl,c0,c1,c2⟩:=h.at_ hi
 have hlen:=h.len
 have H:=Hd h
 have i0:(0:Int)≤(i:Int):=by omega
 have i1:(i:Int) < (ts.length:Int):=by omega
 have hb:¬ (i:Int) < 0:=by omega
 obtain ⟨R,hR⟩:∃ R,R=smallR ts (f+1) i dp:=⟨_,rfl⟩
 rw [← hR]
 unfold smallR at hR
 obtain ⟨k,hk⟩:∃ k,k=kAt ts i:=⟨_,rfl⟩
 obtain ⟨S,hS⟩:∃ S,S=strOf (xAt ts i):=⟨_,rfl⟩
 obtain ⟨ps,hps⟩:∃ ps,ps=pAt ts i:=⟨_,rfl⟩
 rw [← hk] at c0
 rw [← hS] at c1
 rw [← hps] at c2
 have hbl:b < w.heap.size:=World.block_lt_of_cell? _ _ c0
 have hbn:b≠w.heap.size:=by omega
 have HR:=Hd hR
 have HK:=Hd (And.intro hk (And.intro hS hps))
 have KI:=fun (w':World) (ho:Only [] w w') (x:ByteArray)=>ris_any (H.out.quiet ho) (.ok i) hi x
 have HKI:=Hd KI
 clear h hR hk hS hps KI
 go_enter Tryz.func96,Tryz.ntmps96
 go_wp2_with fail
 refine calls_three (fun w3 hA hB hC o3=>?_)
 have t1:w3.cell? ⟨w.heap.size+1,1,none⟩=some (.string S):=cell_at 1 hB
 have t0:w3.cell? ⟨w.heap.size+1,0,none⟩=some (.int .i64 (k:Int)):=cell_at 0 hB
 have e0:w3.cell? ⟨w.heap.size+1+1,0,none⟩=some (.int .i64 0):=cell_at 0 hC
 have e1:w3.cell? ⟨w.heap.size+1+1,1,none⟩=some (.int .i64 0):=cell_at 1 hC
 have e2:w3.cell? ⟨w.heap.size+1+1,2,none⟩=some (.string ⟨#[]⟩):=cell_at 2 hC
 have e3:w3.cell? ⟨w.heap.size+1+1,3,none⟩=some (.slice none 0 0):=cell_at 3 hC
 have e4:w3.cell? ⟨w.heap.size+1+1,4,none⟩=some (.int .i64 (ps:Int)):=cell_at 4 hC
 have fe0:=free_at 0 hC
 have fe1:=free_at 1 hC
 have fe2:=free_at 2 hC
 have fe3:=free_at 3 hC
 have r0:w3.cell? ⟨w.heap.size,0,none⟩=some (.int .i64 0):=cell_at 0 hA
 have r1:w3.cell? ⟨w.heap.size,1,none⟩=some (.int .i64 0):=cell_at 1 hA
 have r2:w3.cell? ⟨w.heap.size,2,none⟩=some (.string ⟨#[]⟩):=cell_at 2 hA
 have r3:w3.cell? ⟨w.heap.size,3,none⟩=some (.slice none 0 0):=cell_at 3 hA
 have r4:w3.cell? ⟨w.heap.size,4,none⟩=some (.int .i64 0):=cell_at 4 hA
 have fr0:=free_at 0 hA
 have fr1:=free_at 1 hA
 have fr2:=free_at 2 hA
 have fr3:=free_at 3 hA
 have fr4:=free_at 4 hA
 have HA:=Hd hA
 have HC:=Hd hC
 have HO:=Hd o3
 clear hA hB hC c0 c1 c2 o3
 have KI:=fun x=>HKI.out w3 HO.out x
 refine (KI _).mono ?_
 rintro e w' ⟨rfl,rfl⟩
 cases d33:isP ts (.ok i) (⟨#[33]⟩:ByteArray).data.toList
 ·go_wp2_with fail
  refine (KI _).mono ?_
  rintro e w' ⟨rfl,rfl⟩
  cases d45:isP ts (.ok i) (⟨#[45]⟩:ByteArray).data.toList
  ·go_wp2_with fail
   refine (KI _).mono ?_
   rintro e w' ⟨rfl,rfl⟩
   cases d91:isP ts (.ok i) (⟨#[91]⟩:ByteArray).data.toList
   ·go_wp2_with fail
    refine (KI _).mono ?_
    rintro e w' ⟨rfl,rfl⟩
    cases d40:isP ts (.ok i) (⟨#[40]⟩:ByteArray).data.toList
    ·by_cases hk2:k=2
     ·subst hk2
      have hn:numT ts i=.ok (numW (xAt ts i),i+1):=if_pos HK.out.1.symm
      have hRR:R=.ok (.mk 1 (numW (xAt ts i)) [] [] ps,i+1):=by
       rw [HR.out,if_neg (by rw [show isT ts i [33]=false from d33,show isT ts i [45]=false from d45];decide),if_neg (by rw [show isT ts i [91]=false from d91];decide),if_neg (by rw [show isT ts i [40]=false from d40];decide),if_pos HK.out.1.symm,HK.out.2.2]
      have KN:=rnum_any (H.out.quiet HO.out) (.ok i) hi
      rw [show valI (numP ts (.ok i))=numW (xAt ts i) from (by show valI (numT ts i)=_;rw [hn];rfl),show zR (numP ts (.ok i))=((i+1:Nat):Int) from (by show zR (numT ts i)=_;rw [hn];rfl)] at KN
      generalize numW (xAt ts i)=nv at KN hRR
      clear hn KI
      go_wp2_with fail
      refine KN.mono ?_
      rintro e w' ⟨rfl,rfl⟩
      go_wp2_with fail
      (try simp only [Exit.inBlock,Exit.then])
      refine bodyPost_ret (res_small _ _ w.heap.size _ _ _ _ _ (.int .i64 ((i+1:Nat):Int)) rfl rfl (five_set (Only.heap (S:=[w.heap.size+1+1]) ?_ HA.out (by simp;omega)) _ _ _ _ _)) rfl ?_
      ·repeat' (first | with_reducible exact Only.refl _ _ | with_reducible refine Only.setCell ?_ (Or.inl ?_) _ | (dsimp only;simp))
      rw [hRR]
      refine RE.leaf rfl rfl ?_
      repeat' (first | with_reducible exact HO.out | with_reducible refine Only.alloc ?_ _ | with_reducible refine Only.setCell ?_ (Or.inr ?_) _ | (dsimp only;omega))
     ·by_cases htf:isT ts i [116,114,117,101]=true∨isT ts i [102,97,108,115,101]=true
      ·have hRR:R=.ok (.mk 2 0 (xAt ts i) [] ps,i+1):=by
        rw [HR.out,if_neg (by rw [show isT ts i [33]=false from d33,show isT ts i [45]=false from d45];decide),if_neg (by rw [show isT ts i [91]=false from d91];decide),if_neg (by rw [show isT ts i [40]=false from d40];decide),if_neg (by rw [← HK.out.1];exact hk2),if_pos htf,HK.out.2.2]
       have hk6:((k:Int) == 2)=false:=by simp;omega
       have hk7:¬ (k:Int)=2:=by omega
       have KI2:=fun (w':World) (ho:Only [] w w') (x:ByteArray)=>HKI.out w' ho x
       have HKI2:=Hd KI2
       clear KI2 KI
       go_wp2_with fail
       refine (HKI2.out _ (HO.out.setCell (.inr (show w.heap.size≤w.heap.size+1+1 by omega)) _) _).mono ?_
       rintro e w' ⟨rfl,rfl⟩
       cases dt:isP ts (.ok i) (⟨#[116,114,117,101]⟩:ByteArray).data.toList
       ·have df:isP ts (.ok i) (⟨#[102,97,108,115,101]⟩:ByteArray).data.toList=true:=htf.resolve_left (by rw [show isT ts i [116,114,117,101]=false from dt];decide)
        go_wp2_with fail
        refine (HKI2.out _ (HO.out.setCell (.inr (show w.heap.size≤w.heap.size+1+1 by omega)) _) _).mono ?_
        rintro e w' ⟨rfl,rfl⟩
        rw [df]
        go_wp2_with fail
        (try simp only [Exit.inBlock,Exit.then])
        refine bodyPost_ret (res_small _ _ w.heap.size _ _ _ _ _ (.int .i64 ((i:Int)+1)) rfl rfl (five_set (Only.heap (S:=[w.heap.size+1+1]) ?_ HA.out (by simp;omega)) _ _ _ _ _)) rfl ?_
        ·repeat' (first | with_reducible exact Only.refl _ _ | with_reducible refine Only.setCell ?_ (Or.inl ?_) _ | (dsimp only;simp))
        rw [hRR]
        refine RE.leaf HK.out.2.1.symm (by omega) ?_
        repeat' (first | with_reducible exact HO.out | with_reducible refine Only.alloc ?_ _ | with_reducible refine Only.setCell ?_ (Or.inr ?_) _ | (dsimp only;omega))
       ·go_wp2_with fail
        (try simp only [Exit.inBlock,Exit.then])
        refine bodyPost_ret (res_small _ _ w.heap.size _ _ _ _ _ (.int .i64 ((i:Int)+1)) rfl rfl (five_set (Only.heap (S:=[w.heap.size+1+1]) ?_ HA.out (by simp;omega)) _ _ _ _ _)) rfl ?_
        ·repeat' (first | with_reducible exact Only.refl _ _ | with_reducible refine Only.setCell ?_ (Or.inl ?_) _ | (dsimp only;simp))
        rw [hRR]
        refine RE.leaf HK.out.2.1.symm (by omega) ?_
        repeat' (first | with_reducible exact HO.out | with_reducible refine Only.alloc ?_ _ | with_reducible refine Only.setCell ?_ (Or.inr ?_) _ | (dsimp only;omega))
      ·have hRR:R=match wordT ts i with | .error k=>.error k | .ok (s,a)=>.ok (.mk 2 0 s [] ps,a):=by
        rw [HR.out,if_neg (by rw [show isT ts i [33]=false from d33,show isT ts i [45]=false from d45];decide),if_neg (by rw [show isT ts i [91]=false from d91];decide),if_neg (by rw [show isT ts i [40]=false from d40];decide),if_neg (by rw [← HK.out.1];exact hk2),if_neg htf,HK.out.2.2]
        rfl
       have hk6:((k:Int) == 2)=false:=by simp;omega
       have hk7:¬ (k:Int)=2:=by omega
       have dt:isP ts (.ok i) (⟨#[116,114,117,101]⟩:ByteArray).data.toList=false:=by
        rw [← Bool.not_eq_true]
        exact fun e=>htf (.inl e)
       have df:isP ts (.ok i) (⟨#[102,97,108,115,101]⟩:ByteArray).data.toList=false:=by
        rw [← Bool.not_eq_true]
        exact fun e=>htf (.inr e)
       have HRR:=Hd hRR
       clear KI hRR
       go_wp2_with fail
       refine (HKI.out _ (HO.out.setCell (.inr (show w.heap.size≤w.heap.size+1+1 by omega)) _) _).mono ?_
       rintro e w' ⟨rfl,rfl⟩
       rw [dt]
       go_wp2_with fail
       refine (HKI.out _ (HO.out.setCell (.inr (show w.heap.size≤w.heap.size+1+1 by omega)) _) _).mono ?_
       rintro e w' ⟨rfl,rfl⟩
       rw [df]
       go_wp2_with fail
       refine (rword_any (H.out.quiet (HO.out.setCell (.inr (show w.heap.size≤w.heap.size+1+1 by omega)) _)) (.ok i) hi).mono ?_
       rintro e w' ⟨rfl,rfl⟩
       cases hw:wordT ts i with
       | error k2=>
        have hRR:=HRR.out
        rw [hw] at hRR
        rw [show zR (wordP ts (.ok i))=-1 - (k2:Int) from (by show _=_;unfold wordP;simp only [hw];rfl)]
        generalize strOf (valS (wordP ts (.ok i)))=S2
        go_wp2_with fail
        (try simp only [Exit.inBlock,Exit.then])
        refine bodyPost_ret (res_small _ _ w.heap.size _ _ _ _ _ (.int .i64 (-1 - (k2:Int))) rfl rfl (five_set (Only.heap (S:=[w.heap.size+1+1]) ?_ HA.out (by simp;omega)) _ _ _ _ _)) rfl ?_
        ·repeat' (first | with_reducible exact Only.refl _ _ | with_reducible refine Only.setCell ?_ (Or.inl ?_) _ | (dsimp only;simp))
        rw [hRR]
        refine RE.bad rfl ?_
        repeat' (first | with_reducible exact HO.out | with_reducible refine Only.alloc ?_ _ | with_reducible refine Only.setCell ?_ (Or.inr ?_) _ | (dsimp only;omega))
       | ok x2=>
        obtain ⟨s2,a2⟩:=x2
        have hRR:=HRR.out
        rw [hw] at hRR
        rw [show zR (wordP ts (.ok i))=(a2:Int) from (by show _=_;unfold wordP;simp only [hw];rfl),show valS (wordP ts (.ok i))=s2 from (by show _=_;unfold wordP;simp only [hw];rfl)]
        generalize hS2:strOf s2=S2
        go_wp2_with fail
        (try simp only [Exit.inBlock,Exit.then])
        refine bodyPost_ret (res_small _ _ w.heap.size _ _ _ _ _ (.int .i64 (a2:Int)) rfl rfl (five_set (Only.heap (S:=[w.heap.size+1+1]) ?_ HA.out (by simp;omega)) _ _ _ _ _)) rfl ?_
        ·repeat' (first | with_reducible exact Only.refl _ _ | with_reducible refine Only.setCell ?_ (Or.inl ?_) _ | (dsimp only;simp))
        rw [hRR]
        refine RE.leaf hS2 rfl ?_
        repeat' (first | with_reducible exact HO.out | with_reducible refine Only.alloc ?_ _ | with_reducible refine Only.setCell ?_ (Or.inr ?_) _ | (dsimp only;omega))
    ·have hRR:R=aroundR ts f i dp [40] [41]:=by
      rw [HR.out,if_neg (by rw [show isT ts i [33]=false from d33,show isT ts i [45]=false from d45];decide),if_neg (by rw [show isT ts i [91]=false from d91];decide),if_pos (show isT ts i [40]=true from d40)]
     have KA:=IA w3 _ i dp ⟨#[40]⟩ ⟨#[41]⟩ (H.out.quiet HO.out) hi (by omega) hdp
     rw [show aroundR ts f i dp (⟨#[40]⟩:ByteArray).data.toList (⟨#[41]⟩:ByteArray).data.toList=R from hRR.symm] at KA
     have HRR:=Hd hRR
     clear KI HR hRR
     go_wp2_with fail
     refine KA.mono ?_
     rintro e w4 ⟨k',n',s',a',l',c',p',rfl,hv,o4⟩
     have HV:=Hd hv
     have HO4:=Hd o4
     have HA4:=Hd (o4.heap HA.out (by simp))
     have HC4:=Hd (o4.heap HC.out (by simp))
     have lE:w.heap.size+1+1 < w4.heap.size:=(Array.getElem?_eq_some_iff.1 HC4.out).1
     have lR:w.heap.size < w4.heap.size:=by omega
     have nE:w.heap.size+1+1≠w4.heap.size:=by omega
     have nR:w.heap.size≠w4.heap.size:=by omega
     have q0:w4.cell? ⟨w.heap.size+1+1,0,none⟩=some (.int .i64 0):=cell_at 0 HC4.out
     have q1:w4.cell? ⟨w.heap.size+1+1,1,none⟩=some (.int .i64 0):=cell_at 1 HC4.out
     have q2:w4.cell? ⟨w.heap.size+1+1,2,none⟩=some (.string ⟨#[]⟩):=cell_at 2 HC4.out
     have q3:w4.cell? ⟨w.heap.size+1+1,3,none⟩=some (.slice none 0 0):=cell_at 3 HC4.out
     have q4:w4.cell? ⟨w.heap.size+1+1,4,none⟩=some (.int .i64 (ps:Int)):=cell_at 4 HC4.out
     have gq0:=free_at 0 HC4.out
     have gq3:=free_at 3 HC4.out
     have s0:w4.cell? ⟨w.heap.size,0,none⟩=some (.int .i64 0):=cell_at 0 HA4.out
     have s1:w4.cell? ⟨w.heap.size,1,none⟩=some (.int .i64 0):=cell_at 1 HA4.out
     have s2:w4.cell? ⟨w.heap.size,2,none⟩=some (.string ⟨#[]⟩):=cell_at 2 HA4.out
     have s3:w4.cell? ⟨w.heap.size,3,none⟩=some (.slice none 0 0):=cell_at 3 HA4.out
     have s4:w4.cell? ⟨w.heap.size,4,none⟩=some (.int .i64 0):=cell_at 4 HA4.out
     have gs0:=free_at 0 HA4.out
     have gs1:=free_at 1 HA4.out
     have gs2:=free_at 2 HA4.out
     have gs3:=free_at 3 HA4.out
     have gs4:=free_at 4 HA4.out
     clear hv o4 KA
     go_wp2_with fail
     (try simp only [Exit.inBlock,Exit.then])
     refine bodyPost_ret (res_small _ _ w.heap.size _ _ _ _ _ (.int .i64 (zR R)) rfl rfl (five_set HA4.out _ _ _ _ _)) rfl ?_
     refine ⟨k',n',s',a',l',c',p',rfl,fun t j h=>?_,?_⟩
     ·have hsz:=(Array.getElem?_eq_some_iff.1 HC.out).1
      refine EV.kept (S:=[w.heap.size]) ?_ (fun b hb=>?_) (fun b hb=>?_) t _ (HV.out t j h)
      ·repeat' (first | with_reducible exact Only.refl _ _ | with_reducible refine Only.setCell ?_ (Or.inl ?_) _ | (dsimp only;simp))
      ·rw [List.mem_singleton.1 hb]
       omega
      ·show w.heap.size≤b
       have:w3.heap.size≤b:=hb
       omega
     ·have OX:=Hd (HO.out.trans HO4.out (by simp))
      repeat' (first | with_reducible exact OX.out | with_reducible refine Only.alloc ?_ _ | with_reducible refine Only.setCell ?_ (Or.inr ?_) _ | (dsimp only;omega))
   ·obtain ⟨r,hr⟩:∃ r,r=aroundR ts f i dp [91] [93]:=⟨_,rfl⟩
    have KA:=IA w3 _ i dp ⟨#[91]⟩ ⟨#[93]⟩ (H.out.quiet HO.out) hi (by omega) hdp
    rw [show aroundR ts f i dp (⟨#[91]⟩:ByteArray).data.toList (⟨#[93]⟩:ByteArray).data.toList=r from hr.symm] at KA
    have hRR:R=oneR 3 ps r:=by
     rw [HR.out,if_neg (by rw [show isT ts i [33]=false from d33,show isT ts i [45]=false from d45];decide),if_pos (show isT ts i [91]=true from d91),hr,HK.out.2.2]
     rfl
    have HRR:=Hd hRR
    clear KI HR hRR hr
    go_wp2_with fail
    refine KA.mono ?_
    rintro e w4 ⟨k',n',s',a',l',c',p',rfl,hv,o4⟩
    have HV:=Hd hv
    have HO4:=Hd o4
    have HA4:=Hd (o4.heap HA.out (by simp))
    have HC4:=Hd (o4.heap HC.out (by simp))
    have lE:w.heap.size+1+1 < w4.heap.size:=(Array.getElem?_eq_some_iff.1 HC4.out).1
    have lR:w.heap.size < w4.heap.size:=by omega
    have nE:w.heap.size+1+1≠w4.heap.size:=by omega
    have nR:w.heap.size≠w4.heap.size:=by omega
    have q0:w4.cell? ⟨w.heap.size+1+1,0,none⟩=some (.int .i64 0):=cell_at 0 HC4.out
    have q1:w4.cell? ⟨w.heap.size+1+1,1,none⟩=some (.int .i64 0):=cell_at 1 HC4.out
    have q2:w4.cell? ⟨w.heap.size+1+1,2,none⟩=some (.string ⟨#[]⟩):=cell_at 2 HC4.out
    have q3:w4.cell? ⟨w.heap.size+1+1,3,none⟩=some (.slice none 0 0):=cell_at 3 HC4.out
    have q4:w4.cell? ⟨w.heap.size+1+1,4,none⟩=some (.int .i64 (ps:Int)):=cell_at 4 HC4.out
    have gq0:=free_at 0 HC4.out
    have gq3:=free_at 3 HC4.out
    have s0:w4.cell? ⟨w.heap.size,0,none⟩=some (.int .i64 0):=cell_at 0 HA4.out
    have s1:w4.cell? ⟨w.heap.size,1,none⟩=some (.int .i64 0):=cell_at 1 HA4.out
    have s2:w4.cell? ⟨w.heap.size,2,none⟩=some (.string ⟨#[]⟩):=cell_at 2 HA4.out
    have s3:w4.cell? ⟨w.heap.size,3,none⟩=some (.slice none 0 0):=cell_at 3 HA4.out
    have s4:w4.cell? ⟨w.heap.size,4,none⟩=some (.int .i64 0):=cell_at 4 HA4.out
    have gs0:=free_at 0 HA4.out
    have gs1:=free_at 1 HA4.out
    have gs2:=free_at 2 HA4.out
    have gs3:=free_at 3 HA4.out
    have gs4:=free_at 4 HA4.out
    clear hv o4 KA q1 q2 q3 q4 s0 s1 s2 s3 s4 gs0 gs1 gs2 gs3 gs4 gq3
    go_upto_region 17 with (fail)
    have hX0:(w4.alloc (.cells #[.int .i64 k',.int .i64 n',.string s',.slice a' l' c',.int .i64 p'] 72)).heap.size=w4.heap.size+1:=Array.size_push _
    have o5:Only [w.heap.size+1+1] w4 ((w4.alloc (.cells #[.int .i64 k',.int .i64 n',.string s',.slice a' l' c',.int .i64 p'] 72)).setCell ⟨w.heap.size+1+1,0,none⟩ (.int .i64 3)):=((Only.refl _ _).alloc _).setCell (.inl (by simp)) _
    have hX5:((w4.alloc (.cells #[.int .i64 k',.int .i64 n',.string s',.slice a' l' c',.int .i64 p'] 72)).setCell ⟨w.heap.size+1+1,0,none⟩ (.int .i64 3)).heap[w4.heap.size]?=some (.cells #[.int .i64 k',.int .i64 n',.string s',.slice a' l' c',.int .i64 p'] 72 (0,0)):=
     ((Only.refl [w.heap.size+1+1] _).setCell (.inl (by simp)) _).heap (heap_new w4 _) (by simp;omega)
    have hE5:((w4.alloc (.cells #[.int .i64 k',.int .i64 n',.string s',.slice a' l' c',.int .i64 p'] 72)).setCell ⟨w.heap.size+1+1,0,none⟩ (.int .i64 3)).heap[w.heap.size+1+1]?=some (.cells #[.int .i64 3,.int .i64 0,.string ⟨#[]⟩,.slice none 0 0,.int .i64 (ps:Int)] 72 (0,0)):=heap_cell (i:=0) _ (heap_old _ HC4.out)
    have hR5:=o5.heap HA4.out (by simp;omega)
    have hs5:((w4.alloc (.cells #[.int .i64 k',.int .i64 n',.string s',.slice a' l' c',.int .i64 p'] 72)).setCell ⟨w.heap.size+1+1,0,none⟩ (.int .i64 3)).heap.size=w4.heap.size+1:=by rw [← hX0];simp
    rw [World.setCell_alloc_past _ _ _ _ lE] at o5 hX5 hE5 hR5 hs5
    generalize (w4.setCell ⟨w.heap.size+1+1,0,none⟩ (.int .i64 3)).alloc (.cells #[.int .i64 k',.int .i64 n',.string s',.slice a' l' c',.int .i64 p'] 72)=w5 at o5 hX5 hE5 hR5 hs5⊢
    have x0:w5.cell? ⟨w4.heap.size,0,none⟩=some (.int .i64 k'):=cell_at 0 hX5
    have x1:w5.cell? ⟨w4.heap.size,1,none⟩=some (.int .i64 n'):=cell_at 1 hX5
    have x2:w5.cell? ⟨w4.heap.size,2,none⟩=some (.string s'):=cell_at 2 hX5
    have x3:w5.cell? ⟨w4.heap.size,3,none⟩=some (.slice a' l' c'):=cell_at 3 hX5
    have x4:w5.cell? ⟨w4.heap.size,4,none⟩=some (.int .i64 p'):=cell_at 4 hX5
    have y3:w5.cell? ⟨w.heap.size+1+1,3,none⟩=some (.slice none 0 0):=cell_at 3 hE5
    have gy3:=free_at 3 hE5
    have HE5:=Hd hE5
    have HR5:=Hd hR5
    have HO5:=Hd o5
    have HS5:=Hd hs5
    have lE5:w.heap.size+1+1 < w5.heap.size:=by omega
    have nE5:w.heap.size+1+1≠w5.heap.size:=by omega
    clear hX5 hE5 hR5 o5 hs5 lE lR nE nR q0 gq0 hX0
    go_upto_region 18 with (fail)
    have o6:Only [w.heap.size+1+1,w.heap.size] (w5.alloc (.cells #[.int .i64 k',.int .i64 n',.string s',.slice a' l' c',.int .i64 p'] 72)) ((w5.alloc (.cells #[.int .i64 k',.int .i64 n',.string s',.slice a' l' c',.int .i64 p'] 72)).setCell ⟨w.heap.size+1+1,3,none⟩ (.slice (some ⟨w5.heap.size,0,none⟩) 1 1)):=(Only.refl _ _).setCell (.inl (by simp)) _
    have hE6:((w5.alloc (.cells #[.int .i64 k',.int .i64 n',.string s',.slice a' l' c',.int .i64 p'] 72)).setCell ⟨w.heap.size+1+1,3,none⟩ (.slice (some ⟨w5.heap.size,0,none⟩) 1 1)).heap[w.heap.size+1+1]?=some (.cells #[.int .i64 3,.int .i64 0,.string ⟨#[]⟩,.slice (some ⟨w5.heap.size,0,none⟩) 1 1,.int .i64 (ps:Int)] 72 (0,0)):=heap_cell (i:=3) _ (heap_old _ HE5.out)
    have hR6:((w5.alloc (.cells #[.int .i64 k',.int .i64 n',.string s',.slice a' l' c',.int .i64 p'] 72)).setCell ⟨w.heap.size+1+1,3,none⟩ (.slice (some ⟨w5.heap.size,0,none⟩) 1 1)).heap[w.heap.size]?=_:=((Only.refl [w.heap.size+1+1] _).setCell (.inl (by simp)) _).heap (heap_old _ HR5.out) (by simp;omega)
    rw [World.setCell_alloc_past _ _ _ _ lE5] at o6 hE6 hR6
    generalize (w5.setCell ⟨w.heap.size+1+1,3,none⟩ (.slice (some ⟨w5.heap.size,0,none⟩) 1 1)).alloc (.cells #[.int .i64 k',.int .i64 n',.string s',.slice a' l' c',.int .i64 p'] 72)=w6 at o6 hE6 hR6⊢
    have y0:w6.cell? ⟨w.heap.size+1+1,0,none⟩=some (.int .i64 3):=cell_at 0 hE6
    have y1:w6.cell? ⟨w.heap.size+1+1,1,none⟩=some (.int .i64 0):=cell_at 1 hE6
    have y2:w6.cell? ⟨w.heap.size+1+1,2,none⟩=some (.string ⟨#[]⟩):=cell_at 2 hE6
    have y3:w6.cell? ⟨w.heap.size+1+1,3,none⟩=some (.slice (some ⟨w5.heap.size,0,none⟩) 1 1):=cell_at 3 hE6
    have y4:w6.cell? ⟨w.heap.size+1+1,4,none⟩=some (.int .i64 (ps:Int)):=cell_at 4 hE6
    have s0:w6.cell? ⟨w.heap.size,0,none⟩=some (.int .i64 0):=cell_at 0 hR6
    have s1:w6.cell? ⟨w.heap.size,1,none⟩=some (.int .i64 0):=cell_at 1 hR6
    have s2:w6.cell? ⟨w.heap.size,2,none⟩=some (.string ⟨#[]⟩):=cell_at 2 hR6
    have s3:w6.cell? ⟨w.heap.size,3,none⟩=some (.slice none 0 0):=cell_at 3 hR6
    have s4:w6.cell? ⟨w.heap.size,4,none⟩=some (.int .i64 0):=cell_at 4 hR6
    have gs0:=free_at 0 hR6
    have gs1:=free_at 1 hR6
    have gs2:=free_at 2 hR6
    have gs3:=free_at 3 hR6
    have gs4:=free_at 4 hR6
    have HO6:=Hd o6
    have HR6:=Hd hR6
    clear o6 hE6 hR6 gy3 x0 x1 x2 x3 x4
    go_wp2_with fail
    (try simp only [Exit.inBlock,Exit.then])
    refine bodyPost_ret (res_small _ _ w.heap.size _ _ _ _ _ (.int .i64 (zR r)) rfl rfl (five_set HR6.out _ _ _ _ _)) rfl ?_
    have hRR:=HRR.out
    have hsz:=(Array.getElem?_eq_some_iff.1 HC.out).1
    have hkl:Only [w.heap.size+1+1,w.heap.size] w6 (((((w6.setCell ⟨w.heap.size,0,none⟩ (.int .i64 3)).setCell ⟨w.heap.size,1,none⟩ (.int .i64 0)).setCell ⟨w.heap.size,2,none⟩ (.string ⟨#[]⟩)).setCell ⟨w.heap.size,3,none⟩ (.slice (some ⟨w5.heap.size,0,none⟩) 1 1)).setCell ⟨w.heap.size,4,none⟩ (.int .i64 (ps:Int))):=
     (((((Only.refl _ _).setCell (.inl (by simp)) _).setCell (.inl (by simp)) _).setCell (.inl (by simp)) _).setCell (.inl (by simp)) _).setCell (.inl (by simp)) _
    have HKL:=Hd (HO6.out.trans hkl (fun k hk=>.inl hk))
    clear hkl
    generalize ((((w6.setCell ⟨w.heap.size,0,none⟩ (.int .i64 3)).setCell ⟨w.heap.size,1,none⟩ (.int .i64 0)).setCell ⟨w.heap.size,2,none⟩ (.string ⟨#[]⟩)).setCell ⟨w.heap.size,3,none⟩ (.slice (some ⟨w5.heap.size,0,none⟩) 1 1)).setCell ⟨w.heap.size,4,none⟩ (.int .i64 (ps:Int))=w7 at HKL⊢
    cases r with
    | error k2=>
     rw [hRR]
     refine RE.bad rfl ?_
     refine (((HO.out.trans HO4.out (by simp)).trans (T:=[w.heap.size+1+1]) HO5.out (fun k hk=>.inr ?_)).trans (T:=[w.heap.size+1+1,w.heap.size]) (((Only.refl [w.heap.size+1+1,w.heap.size] w5).alloc _).trans HKL.out (fun k hk=>.inl hk)) (fun k hk=>.inr ?_))
     ·rw [List.mem_singleton.1 hk];omega
     ·rcases List.mem_cons.1 hk with rfl | hk
      ·omega
      ·rw [List.mem_singleton.1 hk];exact Nat.le_refl _
    | ok x2=>
     obtain ⟨t,a2⟩:=x2
     rw [hRR]
     exact RE.one (gE:=w.heap.size+1+1) (gR:=w.heap.size) (HV.out t a2 rfl) HO.out HO4.out ⟨by omega,hsz⟩ ⟨Nat.le_refl _,by omega⟩ HO5.out HKL.out rfl rfl
  ·obtain ⟨KD,hKD⟩:∃ KD:Int,KD=5:=⟨_,rfl⟩
   have htx:xAt ts i=[45]:=by
    have h1:isT ts i [45]=true:=d45
    unfold isT at h1
    simp only [Bool.and_eq_true,beq_iff_eq] at h1
    exact h1.2
   have hs45:S=⟨#[45]⟩:=by rw [HK.out.2.1,htx];rfl
   have hor:isT ts i [33]=true∨isT ts i [45]=true:=.inr d45
   have hkd:(if xAt ts i=[45] then (5:Int) else 4)=KD:=by rw [if_pos htx,hKD]
   subst hs45
   by_cases h12:12≤dp
   ·have hRR:R=.error i:=by rw [HR.out,if_pos hor,if_pos h12]
    have HRR:=Hd hRR
    have h12':(12:Int)≤(dp:Int):=by omega
    clear KI HR hRR hor hkd htx
    go_wp2_with fail
    have oD:Only [] w3 w3.drew:=(Only.refl [] w3).drew
    have hCd:=oD.heap HC.out (by simp)
    have hAd:=oD.heap HA.out (by simp)
    have HOd:=Hd (HO.out.trans oD (by simp))
    have HAd:=Hd hAd
    have HCd:=Hd hCd
    clear oD e0 e1 e2 e3 e4 fe0 fe1 fe2 fe3 r0 r1 r2 r3 r4 fr0 fr1 fr2 fr3 fr4 t0 t1 HO HA HC hAd
    refine wp_region_held_drew (S:=fun w'=>w'.cell? ⟨w.heap.size+1+1,0,none⟩=some (.int .i64 0)∧w'.cell? ⟨w.heap.size+1+1,1,none⟩=some (.int .i64 0)∧w'.cell? ⟨w.heap.size+1+1,2,none⟩=some (.string ⟨#[]⟩)∧w'.cell? ⟨w.heap.size+1+1,3,none⟩=some (.slice none 0 0)∧w'.cell? ⟨w.heap.size+1+1,4,none⟩=some (.int .i64 (ps:Int))) (by kernel_rfl) ⟨cell_at 0 hCd,cell_at 1 hCd,cell_at 2 hCd,cell_at 3 hCd,cell_at 4 hCd⟩ (fun hH=>?_)
    clear hCd HKI
    generalize w3.drew=wd at HAd HCd HOd hH⊢
    refine tk 0 hH ?_
    refine tk 1 hH ?_
    refine rd 2 (fun K hK=>?_)
    go_simp
    refine (rbad_any i (by omega) _).mono ?_
    rintro e w' ⟨rfl,rfl⟩
    refine hK.out _ _ hH (fun hH=>?_)
    clear hK K
    have s0:wd.cell? ⟨w.heap.size,0,none⟩=some (.int .i64 0):=cell_at 0 HAd.out
    have s1:wd.cell? ⟨w.heap.size,1,none⟩=some (.int .i64 0):=cell_at 1 HAd.out
    have s2:wd.cell? ⟨w.heap.size,2,none⟩=some (.string ⟨#[]⟩):=cell_at 2 HAd.out
    have s3:wd.cell? ⟨w.heap.size,3,none⟩=some (.slice none 0 0):=cell_at 3 HAd.out
    have s4:wd.cell? ⟨w.heap.size,4,none⟩=some (.int .i64 0):=cell_at 4 HAd.out
    have gs0:=free_at 0 HAd.out
    have gs1:=free_at 1 HAd.out
    have gs2:=free_at 2 HAd.out
    have gs3:=free_at 3 HAd.out
    have gs4:=free_at 4 HAd.out
    clear hH
    refine rd 3 (fun K hK=>?_)
    go_simp
    have oz:Only [w.heap.size] wd (((((wd.setCell ⟨w.heap.size,0,none⟩ (.int .i64 0)).setCell ⟨w.heap.size,1,none⟩ (.int .i64 0)).setCell ⟨w.heap.size,2,none⟩ (.string ⟨#[]⟩)).setCell ⟨w.heap.size,3,none⟩ (.slice none 0 0)).setCell ⟨w.heap.size,4,none⟩ (.int .i64 (ps:Int))):=
     (((((Only.refl _ _).setCell (.inl (by simp)) _).setCell (.inl (by simp)) _).setCell (.inl (by simp)) _).setCell (.inl (by simp)) _).setCell (.inl (by simp)) _
    have hz:=five_set HAd.out (.int .i64 0) (.int .i64 0) (.string ⟨#[]⟩) (.slice none 0 0) (.int .i64 (ps:Int))
    have hCz:=oz.heap HCd.out (by simp;omega)
    generalize ((((wd.setCell ⟨w.heap.size,0,none⟩ (.int .i64 0)).setCell ⟨w.heap.size,1,none⟩ (.int .i64 0)).setCell ⟨w.heap.size,2,none⟩ (.string ⟨#[]⟩)).setCell ⟨w.heap.size,3,none⟩ (.slice none 0 0)).setCell ⟨w.heap.size,4,none⟩ (.int .i64 (ps:Int))=wz at oz hz hCz⊢
    have HOz:=Hd oz
    have HZ:=Hd hz
    refine hK.out _ _ ⟨cell_at 0 hCz,cell_at 1 hCz,cell_at 2 hCz,cell_at 3 hCz,cell_at 4 hCz⟩ (fun hH=>?_)
    clear hK K hz hCz oz s0 s1 s2 s3 s4 gs0 gs1 gs2 gs3 gs4
    refine tk 4 hH ?_
    refine wpAnyH_done (by kernel_rfl) ?_ _
    clear hH
    go_wp2_with fail
    (try simp only [Exit.inBlock,Exit.then])
    refine bodyPost_ret (res_small _ _ w.heap.size _ _ _ _ _ (.int .i64 (-1 - (i:Int))) rfl rfl HZ.out) rfl ?_
    rw [HRR.out]
    refine RE.bad rfl (HOd.out.trans (T:=[w.heap.size]) HOz.out (fun k hk=>.inr ?_))
    rw [List.mem_singleton.1 hk]
    exact Nat.le_refl _
   ·obtain ⟨r,hr⟩:∃ r,r=smallR ts f (i+1) (dp+1):=⟨_,rfl⟩
    have hRR:R=oneR KD ps r:=by
     rw [HR.out,if_pos hor,if_neg h12,hr,HK.out.2.2,hkd]
     rfl
    have HRR:=Hd hRR
    have h12':¬ (12:Int)≤(dp:Int):=by omega
    have hi1:i+1 < ts.length:=hor.elim (isT_lt H.out.ends hi) (isT_lt H.out.ends hi)
    clear KI HR hRR hkd htx hor
    go_wp2_with fail
    have oW:Only [w.heap.size+1+1] w3 ((w3.setCell ⟨w.heap.size+1+1,0,none⟩ (.int .i64 4)).setCell ⟨w.heap.size+1+1,0,none⟩ (.int .i64 5)):=by
     repeat' (first | with_reducible exact Only.refl _ _ | with_reducible refine Only.alloc ?_ _ | with_reducible refine Only.setCell ?_ (Or.inl ?_) _ | (dsimp only;simp))
    have hEW:((w3.setCell ⟨w.heap.size+1+1,0,none⟩ (.int .i64 4)).setCell ⟨w.heap.size+1+1,0,none⟩ (.int .i64 5)).heap[w.heap.size+1+1]?=some (.cells #[.int .i64 5,.int .i64 0,.string ⟨#[]⟩,.slice none 0 0,.int .i64 (ps:Int)] 72 (0,0)):=heap_cell (i:=0) _ (heap_cell (i:=0) _ HC.out)
    have hAW:=oW.heap HA.out (by simp;omega)
    have oWW:=HO.out.trans (T:=[w.heap.size+1+1]) oW (fun k hk=>.inr (by rw [List.mem_singleton.1 hk];omega))
    clear e0 e1 e2 e3 e4 fe0 fe1 fe2 fe3 r0 r1 r2 r3 r4 fr0 fr1 fr2 fr3 fr4 t0 t1 oW HO HA HC HKI
    generalize (w3.setCell ⟨w.heap.size+1+1,0,none⟩ (.int .i64 4)).setCell ⟨w.heap.size+1+1,0,none⟩ (.int .i64 5)=wW at hEW hAW oWW⊢
    have HO:=Hd oWW
    have HA:=Hd hAW
    have HC:=Hd hEW
    clear oWW hAW hEW
    have KS:=IS wW _ (i+1) (dp+1) (H.out.quiet HO.out) hi1 (by omega) (by omega)
    rw [← hr,show ((i+1:Nat):Int)=(i:Int)+1 by omega,show ((dp+1:Nat):Int)=(dp:Int)+1 by omega] at KS
    clear hr
    refine KS.mono ?_
    rintro e w4 ⟨k',n',s',a',l',c',p',rfl,hv,o4⟩
    have HV:=Hd hv
    have HO4:=Hd o4
    have hC4:=o4.heap HC.out (by simp)
    have hA4:=o4.heap HA.out (by simp)
    have lE:w.heap.size+1+1 < w4.heap.size:=(Array.getElem?_eq_some_iff.1 hC4).1
    have lR:w.heap.size < w4.heap.size:=by omega
    have nE:w.heap.size+1+1≠w4.heap.size:=by omega
    have nR:w.heap.size≠w4.heap.size:=by omega
    clear hv o4 KS
    go_upto_region 12 with (fail)
    have hX0:(w4.alloc (.cells #[.int .i64 k',.int .i64 n',.string s',.slice a' l' c',.int .i64 p'] 72)).heap.size=w4.heap.size+1:=Array.size_push _
    have o5:Only [w.heap.size+1+1] w4 (w4.alloc (.cells #[.int .i64 k',.int .i64 n',.string s',.slice a' l' c',.int .i64 p'] 72)):=(Only.refl _ _).alloc _
    have hX5:(w4.alloc (.cells #[.int .i64 k',.int .i64 n',.string s',.slice a' l' c',.int .i64 p'] 72)).heap[w4.heap.size]?=some (.cells #[.int .i64 k',.int .i64 n',.string s',.slice a' l' c',.int .i64 p'] 72 (0,0)):=heap_new w4 _
    have hE5:=heap_old (.cells #[.int .i64 k',.int .i64 n',.string s',.slice a' l' c',.int .i64 p'] 72) hC4
    have hR5:=heap_old (.cells #[.int .i64 k',.int .i64 n',.string s',.slice a' l' c',.int .i64 p'] 72) hA4
    have hs5:=hX0
    have q0:=hi1
    have gq0:=hi1
    clear hC4 hA4
    generalize w4.alloc (.cells #[.int .i64 k',.int .i64 n',.string s',.slice a' l' c',.int .i64 p'] 72)=w5 at o5 hX5 hE5 hR5 hs5 hX0⊢
    rw [hKD] at HRR
    have x0:w5.cell? ⟨w4.heap.size,0,none⟩=some (.int .i64 k'):=cell_at 0 hX5
    have x1:w5.cell? ⟨w4.heap.size,1,none⟩=some (.int .i64 n'):=cell_at 1 hX5
    have x2:w5.cell? ⟨w4.heap.size,2,none⟩=some (.string s'):=cell_at 2 hX5
    have x3:w5.cell? ⟨w4.heap.size,3,none⟩=some (.slice a' l' c'):=cell_at 3 hX5
    have x4:w5.cell? ⟨w4.heap.size,4,none⟩=some (.int .i64 p'):=cell_at 4 hX5
    have y3:w5.cell? ⟨w.heap.size+1+1,3,none⟩=some (.slice none 0 0):=cell_at 3 hE5
    have gy3:=free_at 3 hE5
    have HE5:=Hd hE5
    have HR5:=Hd hR5
    have HO5:=Hd o5
    have HS5:=Hd hs5
    have lE5:w.heap.size+1+1 < w5.heap.size:=by omega
    have nE5:w.heap.size+1+1≠w5.heap.size:=by omega
    clear hX5 hE5 hR5 o5 hs5 lE lR nE nR q0 gq0 hX0
    go_upto_region 13 with (fail)
    have o6:Only [w.heap.size+1+1,w.heap.size] (w5.alloc (.cells #[.int .i64 k',.int .i64 n',.string s',.slice a' l' c',.int .i64 p'] 72)) ((w5.alloc (.cells #[.int .i64 k',.int .i64 n',.string s',.slice a' l' c',.int .i64 p'] 72)).setCell ⟨w.heap.size+1+1,3,none⟩ (.slice (some ⟨w5.heap.size,0,none⟩) 1 1)):=(Only.refl _ _).setCell (.inl (by simp)) _
    have hE6:((w5.alloc (.cells #[.int .i64 k',.int .i64 n',.string s',.slice a' l' c',.int .i64 p'] 72)).setCell ⟨w.heap.size+1+1,3,none⟩ (.slice (some ⟨w5.heap.size,0,none⟩) 1 1)).heap[w.heap.size+1+1]?=some (.cells #[.int .i64 5,.int .i64 0,.string ⟨#[]⟩,.slice (some ⟨w5.heap.size,0,none⟩) 1 1,.int .i64 (ps:Int)] 72 (0,0)):=heap_cell (i:=3) _ (heap_old _ HE5.out)
    have hR6:((w5.alloc (.cells #[.int .i64 k',.int .i64 n',.string s',.slice a' l' c',.int .i64 p'] 72)).setCell ⟨w.heap.size+1+1,3,none⟩ (.slice (some ⟨w5.heap.size,0,none⟩) 1 1)).heap[w.heap.size]?=_:=((Only.refl [w.heap.size+1+1] _).setCell (.inl (by simp)) _).heap (heap_old _ HR5.out) (by simp;omega)
    rw [World.setCell_alloc_past _ _ _ _ lE5] at o6 hE6 hR6
    generalize (w5.setCell ⟨w.heap.size+1+1,3,none⟩ (.slice (some ⟨w5.heap.size,0,none⟩) 1 1)).alloc (.cells #[.int .i64 k',.int .i64 n',.string s',.slice a' l' c',.int .i64 p'] 72)=w6 at o6 hE6 hR6⊢
    have y0:w6.cell? ⟨w.heap.size+1+1,0,none⟩=some (.int .i64 5):=cell_at 0 hE6
    have y1:w6.cell? ⟨w.heap.size+1+1,1,none⟩=some (.int .i64 0):=cell_at 1 hE6
    have y2:w6.cell? ⟨w.heap.size+1+1,2,none⟩=some (.string ⟨#[]⟩):=cell_at 2 hE6
    have y3:w6.cell? ⟨w.heap.size+1+1,3,none⟩=some (.slice (some ⟨w5.heap.size,0,none⟩) 1 1):=cell_at 3 hE6
    have y4:w6.cell? ⟨w.heap.size+1+1,4,none⟩=some (.int .i64 (ps:Int)):=cell_at 4 hE6
    have s0:w6.cell? ⟨w.heap.size,0,none⟩=some (.int .i64 0):=cell_at 0 hR6
    have s1:w6.cell? ⟨w.heap.size,1,none⟩=some (.int .i64 0):=cell_at 1 hR6
    have s2:w6.cell? ⟨w.heap.size,2,none⟩=some (.string ⟨#[]⟩):=cell_at 2 hR6
    have s3:w6.cell? ⟨w.heap.size,3,none⟩=some (.slice none 0 0):=cell_at 3 hR6
    have s4:w6.cell? ⟨w.heap.size,4,none⟩=some (.int .i64 0):=cell_at 4 hR6
    have gs0:=free_at 0 hR6
    have gs1:=free_at 1 hR6
    have gs2:=free_at 2 hR6
    have gs3:=free_at 3 hR6
    have gs4:=free_at 4 hR6
    have HO6:=Hd o6
    have HR6:=Hd hR6
    clear o6 hE6 hR6 gy3 x0 x1 x2 x3 x4
    go_wp2_with fail
    (try simp only [Exit.inBlock,Exit.then])
    refine bodyPost_ret (res_small _ _ w.heap.size _ _ _ _ _ (.int .i64 (zR r)) rfl rfl (five_set HR6.out _ _ _ _ _)) rfl ?_
    have hRR:=HRR.out
    have hsz:=(Array.getElem?_eq_some_iff.1 HC.out).1
    have hkl:Only [w.heap.size+1+1,w.heap.size] w6 (((((w6.setCell ⟨w.heap.size,0,none⟩ (.int .i64 5)).setCell ⟨w.heap.size,1,none⟩ (.int .i64 0)).setCell ⟨w.heap.size,2,none⟩ (.string ⟨#[]⟩)).setCell ⟨w.heap.size,3,none⟩ (.slice (some ⟨w5.heap.size,0,none⟩) 1 1)).setCell ⟨w.heap.size,4,none⟩ (.int .i64 (ps:Int))):=
     (((((Only.refl _ _).setCell (.inl (by simp)) _).setCell (.inl (by simp)) _).setCell (.inl (by simp)) _).setCell (.inl (by simp)) _).setCell (.inl (by simp)) _
    have HKL:=Hd (HO6.out.trans hkl (fun k hk=>.inl hk))
    clear hkl
    generalize ((((w6.setCell ⟨w.heap.size,0,none⟩ (.int .i64 5)).setCell ⟨w.heap.size,1,none⟩ (.int .i64 0)).setCell ⟨w.heap.size,2,none⟩ (.string ⟨#[]⟩)).setCell ⟨w.heap.size,3,none⟩ (.slice (some ⟨w5.heap.size,0,none⟩) 1 1)).setCell ⟨w.heap.size,4,none⟩ (.int .i64 (ps:Int))=w7 at HKL⊢
    cases r with
    | error k2=>
     rw [hRR]
     refine RE.bad rfl ?_
     refine (((HO.out.trans HO4.out (by simp)).trans (T:=[w.heap.size+1+1]) HO5.out (fun k hk=>.inr ?_)).trans (T:=[w.heap.size+1+1,w.heap.size]) (((Only.refl [w.heap.size+1+1,w.heap.size] w5).alloc _).trans HKL.out (fun k hk=>.inl hk)) (fun k hk=>.inr ?_))
     ·rw [List.mem_singleton.1 hk];omega
     ·rcases List.mem_cons.1 hk with rfl | hk
      ·omega
      ·rw [List.mem_singleton.1 hk];exact Nat.le_refl _
    | ok x2=>
     obtain ⟨t,a2⟩:=x2
     rw [hRR]
     exact RE.one (gE:=w.heap.size+1+1) (gR:=w.heap.size) (HV.out t a2 rfl) HO.out HO4.out ⟨by omega,hsz⟩ ⟨Nat.le_refl _,by omega⟩ HO5.out HKL.out rfl rfl
 ·have htx:xAt ts i=[33]:=by
   have h1:isT ts i [33]=true:=d33
   unfold isT at h1
   simp only [Bool.and_eq_true,beq_iff_eq] at h1
   exact h1.2
  obtain ⟨KD,hKD⟩:∃ KD:Int,KD=4:=⟨_,rfl⟩
  have hs45:S=⟨#[33]⟩:=by rw [HK.out.2.1,htx];rfl
  have hor:isT ts i [33]=true∨isT ts i [45]=true:=.inl d33
  have hkd:(if xAt ts i=[45] then (5:Int) else 4)=KD:=by rw [if_neg (by rw [htx];decide),hKD]
  subst hs45
  by_cases h12:12≤dp
  ·have hRR:R=.error i:=by rw [HR.out,if_pos hor,if_pos h12]
   have HRR:=Hd hRR
   have h12':(12:Int)≤(dp:Int):=by omega
   clear KI HR hRR hor hkd htx
   go_wp2_with fail
   have oD:Only [] w3 w3.drew:=(Only.refl [] w3).drew
   have hCd:=oD.heap HC.out (by simp)
   have hAd:=oD.heap HA.out (by simp)
   have HOd:=Hd (HO.out.trans oD (by simp))
   have HAd:=Hd hAd
   have HCd:=Hd hCd
   clear oD e0 e1 e2 e3 e4 fe0 fe1 fe2 fe3 r0 r1 r2 r3 r4 fr0 fr1 fr2 fr3 fr4 t0 t1 HO HA HC hAd
   refine wp_region_held_drew (S:=fun w'=>w'.cell? ⟨w.heap.size+1+1,0,none⟩=some (.int .i64 0)∧w'.cell? ⟨w.heap.size+1+1,1,none⟩=some (.int .i64 0)∧w'.cell? ⟨w.heap.size+1+1,2,none⟩=some (.string ⟨#[]⟩)∧w'.cell? ⟨w.heap.size+1+1,3,none⟩=some (.slice none 0 0)∧w'.cell? ⟨w.heap.size+1+1,4,none⟩=some (.int .i64 (ps:Int))) (by kernel_rfl) ⟨cell_at 0 hCd,cell_at 1 hCd,cell_at 2 hCd,cell_at 3 hCd,cell_at 4 hCd⟩ (fun hH=>?_)
   clear hCd HKI
   generalize w3.drew=wd at HAd HCd HOd hH⊢
   refine tk 0 hH ?_
   refine tk 1 hH ?_
   refine rd 2 (fun K hK=>?_)
   go_simp
   refine (rbad_any i (by omega) _).mono ?_
   rintro e w' ⟨rfl,rfl⟩
   refine hK.out _ _ hH (fun hH=>?_)
   clear hK K
   have s0:wd.cell? ⟨w.heap.size,0,none⟩=some (.int .i64 0):=cell_at 0 HAd.out
   have s1:wd.cell? ⟨w.heap.size,1,none⟩=some (.int .i64 0):=cell_at 1 HAd.out
   have s2:wd.cell? ⟨w.heap.size,2,none⟩=some (.string ⟨#[]⟩):=cell_at 2 HAd.out
   have s3:wd.cell? ⟨w.heap.size,3,none⟩=some (.slice none 0 0):=cell_at 3 HAd.out
   have s4:wd.cell? ⟨w.heap.size,4,none⟩=some (.int .i64 0):=cell_at 4 HAd.out
   have gs0:=free_at 0 HAd.out
   have gs1:=free_at 1 HAd.out
   have gs2:=free_at 2 HAd.out
   have gs3:=free_at 3 HAd.out
   have gs4:=free_at 4 HAd.out
   clear hH
   refine rd 3 (fun K hK=>?_)
   go_simp
   have oz:Only [w.heap.size] wd (((((wd.setCell ⟨w.heap.size,0,none⟩ (.int .i64 0)).setCell ⟨w.heap.size,1,none⟩ (.int .i64 0)).setCell ⟨w.heap.size,2,none⟩ (.string ⟨#[]⟩)).setCell ⟨w.heap.size,3,none⟩ (.slice none 0 0)).setCell ⟨w.heap.size,4,none⟩ (.int .i64 (ps:Int))):=
    (((((Only.refl _ _).setCell (.inl (by simp)) _).setCell (.inl (by simp)) _).setCell (.inl (by simp)) _).setCell (.inl (by simp)) _).setCell (.inl (by simp)) _
   have hz:=five_set HAd.out (.int .i64 0) (.int .i64 0) (.string ⟨#[]⟩) (.slice none 0 0) (.int .i64 (ps:Int))
   have hCz:=oz.heap HCd.out (by simp;omega)
   generalize ((((wd.setCell ⟨w.heap.size,0,none⟩ (.int .i64 0)).setCell ⟨w.heap.size,1,none⟩ (.int .i64 0)).setCell ⟨w.heap.size,2,none⟩ (.string ⟨#[]⟩)).setCell ⟨w.heap.size,3,none⟩ (.slice none 0 0)).setCell ⟨w.heap.size,4,none⟩ (.int .i64 (ps:Int))=wz at oz hz hCz⊢
   have HOz:=Hd oz
   have HZ:=Hd hz
   refine hK.out _ _ ⟨cell_at 0 hCz,cell_at 1 hCz,cell_at 2 hCz,cell_at 3 hCz,cell_at 4 hCz⟩ (fun hH=>?_)
   clear hK K hz hCz oz s0 s1 s2 s3 s4 gs0 gs1 gs2 gs3 gs4
   refine tk 4 hH ?_
   refine wpAnyH_done (by kernel_rfl) ?_ _
   clear hH
   go_wp2_with fail
   (try simp only [Exit.inBlock,Exit.then])
   refine bodyPost_ret (res_small _ _ w.heap.size _ _ _ _ _ (.int .i64 (-1 - (i:Int))) rfl rfl HZ.out) rfl ?_
   rw [HRR.out]
   refine RE.bad rfl (HOd.out.trans (T:=[w.heap.size]) HOz.out (fun k hk=>.inr ?_))
   rw [List.mem_singleton.1 hk]
   exact Nat.le_refl _
  ·obtain ⟨r,hr⟩:∃ r,r=smallR ts f (i+1) (dp+1):=⟨_,rfl⟩
   have hRR:R=oneR KD ps r:=by
    rw [HR.out,if_pos hor,if_neg h12,hr,HK.out.2.2,hkd]
    rfl
   have HRR:=Hd hRR
   have h12':¬ (12:Int)≤(dp:Int):=by omega
   have hi1:i+1 < ts.length:=hor.elim (isT_lt H.out.ends hi) (isT_lt H.out.ends hi)
   clear KI HR hRR hkd htx hor
   go_wp2_with fail
   have oW:Only [w.heap.size+1+1] w3 (w3.setCell ⟨w.heap.size+1+1,0,none⟩ (.int .i64 4)):=by
    repeat' (first | with_reducible exact Only.refl _ _ | with_reducible refine Only.alloc ?_ _ | with_reducible refine Only.setCell ?_ (Or.inl ?_) _ | (dsimp only;simp))
   have hEW:(w3.setCell ⟨w.heap.size+1+1,0,none⟩ (.int .i64 4)).heap[w.heap.size+1+1]?=some (.cells #[.int .i64 4,.int .i64 0,.string ⟨#[]⟩,.slice none 0 0,.int .i64 (ps:Int)] 72 (0,0)):=heap_cell (i:=0) _ HC.out
   have hAW:=oW.heap HA.out (by simp;omega)
   have oWW:=HO.out.trans (T:=[w.heap.size+1+1]) oW (fun k hk=>.inr (by rw [List.mem_singleton.1 hk];omega))
   clear e0 e1 e2 e3 e4 fe0 fe1 fe2 fe3 r0 r1 r2 r3 r4 fr0 fr1 fr2 fr3 fr4 t0 t1 oW HO HA HC HKI
   generalize w3.setCell ⟨w.heap.size+1+1,0,none⟩ (.int .i64 4)=wW at hEW hAW oWW⊢
   have HO:=Hd oWW
   have HA:=Hd hAW
   have HC:=Hd hEW
   clear oWW hAW hEW
   have KS:=IS wW _ (i+1) (dp+1) (H.out.quiet HO.out) hi1 (by omega) (by omega)
   rw [← hr,show ((i+1:Nat):Int)=(i:Int)+1 by omega,show ((dp+1:Nat):Int)=(dp:Int)+1 by omega] at KS
   clear hr
   refine KS.mono ?_
   rintro e w4 ⟨k',n',s',a',l',c',p',rfl,hv,o4⟩
   have HV:=Hd hv
   have HO4:=Hd o4
   have hC4:=o4.heap HC.out (by simp)
   have hA4:=o4.heap HA.out (by simp)
   have lE:w.heap.size+1+1 < w4.heap.size:=(Array.getElem?_eq_some_iff.1 hC4).1
   have lR:w.heap.size < w4.heap.size:=by omega
   have nE:w.heap.size+1+1≠w4.heap.size:=by omega
   have nR:w.heap.size≠w4.heap.size:=by omega
   clear hv o4 KS
   go_upto_region 12 with (fail)
   have hX0:(w4.alloc (.cells #[.int .i64 k',.int .i64 n',.string s',.slice a' l' c',.int .i64 p'] 72)).heap.size=w4.heap.size+1:=Array.size_push _
   have o5:Only [w.heap.size+1+1] w4 (w4.alloc (.cells #[.int .i64 k',.int .i64 n',.string s',.slice a' l' c',.int .i64 p'] 72)):=(Only.refl _ _).alloc _
   have hX5:(w4.alloc (.cells #[.int .i64 k',.int .i64 n',.string s',.slice a' l' c',.int .i64 p'] 72)).heap[w4.heap.size]?=some (.cells #[.int .i64 k',.int .i64 n',.string s',.slice a' l' c',.int .i64 p'] 72 (0,0)):=heap_new w4 _
   have hE5:=heap_old (.cells #[.int .i64 k',.int .i64 n',.string s',.slice a' l' c',.int .i64 p'] 72) hC4
   have hR5:=heap_old (.cells #[.int .i64 k',.int .i64 n',.string s',.slice a' l' c',.int .i64 p'] 72) hA4
   have hs5:=hX0
   have q0:=hi1
   have gq0:=hi1
   clear hC4 hA4
   generalize w4.alloc (.cells #[.int .i64 k',.int .i64 n',.string s',.slice a' l' c',.int .i64 p'] 72)=w5 at o5 hX5 hE5 hR5 hs5 hX0⊢
   rw [hKD] at HRR
   have x0:w5.cell? ⟨w4.heap.size,0,none⟩=some (.int .i64 k'):=cell_at 0 hX5
   have x1:w5.cell? ⟨w4.heap.size,1,none⟩=some (.int .i64 n'):=cell_at 1 hX5
   have x2:w5.cell? ⟨w4.heap.size,2,none⟩=some (.string s'):=cell_at 2 hX5
   have x3:w5.cell? ⟨w4.heap.size,3,none⟩=some (.slice a' l' c'):=cell_at 3 hX5
   have x4:w5.cell? ⟨w4.heap.size,4,none⟩=some (.int .i64 p'):=cell_at 4 hX5
   have y3:w5.cell? ⟨w.heap.size+1+1,3,none⟩=some (.slice none 0 0):=cell_at 3 hE5
   have gy3:=free_at 3 hE5
   have HE5:=Hd hE5
   have HR5:=Hd hR5
   have HO5:=Hd o5
   have HS5:=Hd hs5
   have lE5:w.heap.size+1+1 < w5.heap.size:=by omega
   have nE5:w.heap.size+1+1≠w5.heap.size:=by omega
   clear hX5 hE5 hR5 o5 hs5 lE lR nE nR q0 gq0 hX0
   go_upto_region 13 with (fail)
   have o6:Only [w.heap.size+1+1,w.heap.size] (w5.alloc (.cells #[.int .i64 k',.int .i64 n',.string s',.slice a' l' c',.int .i64 p'] 72)) ((w5.alloc (.cells #[.int .i64 k',.int .i64 n',.string s',.slice a' l' c',.int .i64 p'] 72)).setCell ⟨w.heap.size+1+1,3,none⟩ (.slice (some ⟨w5.heap.size,0,none⟩) 1 1)):=(Only.refl _ _).setCell (.inl (by simp)) _
   have hE6:((w5.alloc (.cells #[.int .i64 k',.int .i64 n',.string s',.slice a' l' c',.int .i64 p'] 72)).setCell ⟨w.heap.size+1+1,3,none⟩ (.slice (some ⟨w5.heap.size,0,none⟩) 1 1)).heap[w.heap.size+1+1]?=some (.cells #[.int .i64 4,.int .i64 0,.string ⟨#[]⟩,.slice (some ⟨w5.heap.size,0,none⟩) 1 1,.int .i64 (ps:Int)] 72 (0,0)):=heap_cell (i:=3) _ (heap_old _ HE5.out)
   have hR6:((w5.alloc (.cells #[.int .i64 k',.int .i64 n',.string s',.slice a' l' c',.int .i64 p'] 72)).setCell ⟨w.heap.size+1+1,3,none⟩ (.slice (some ⟨w5.heap.size,0,none⟩) 1 1)).heap[w.heap.size]?=_:=((Only.refl [w.heap.size+1+1] _).setCell (.inl (by simp)) _).heap (heap_old _ HR5.out) (by simp;omega)
   rw [World.setCell_alloc_past _ _ _ _ lE5] at o6 hE6 hR6
   generalize (w5.setCell ⟨w.heap.size+1+1,3,none⟩ (.slice (some ⟨w5.heap.size,0,none⟩) 1 1)).alloc (.cells #[.int .i64 k',.int .i64 n',.string s',.slice a' l' c',.int .i64 p'] 72)=w6 at o6 hE6 hR6⊢
   have y0:w6.cell? ⟨w.heap.size+1+1,0,none⟩=some (.int .i64 4):=cell_at 0 hE6
   have y1:w6.cell? ⟨w.heap.size+1+1,1,none⟩=some (.int .i64 0):=cell_at 1 hE6
   have y2:w6.cell? ⟨w.heap.size+1+1,2,none⟩=some (.string ⟨#[]⟩):=cell_at 2 hE6
   have y3:w6.cell? ⟨w.heap.size+1+1,3,none⟩=some (.slice (some ⟨w5.heap.size,0,none⟩) 1 1):=cell_at 3 hE6
   have y4:w6.cell? ⟨w.heap.size+1+1,4,none⟩=some (.int .i64 (ps:Int)):=cell_at 4 hE6
   have s0:w6.cell? ⟨w.heap.size,0,none⟩=some (.int .i64 0):=cell_at 0 hR6
   have s1:w6.cell? ⟨w.heap.size,1,none⟩=some (.int .i64 0):=cell_at 1 hR6
   have s2:w6.cell? ⟨w.heap.size,2,none⟩=some (.string ⟨#[]⟩):=cell_at 2 hR6
   have s3:w6.cell? ⟨w.heap.size,3,none⟩=some (.slice none 0 0):=cell_at 3 hR6
   have s4:w6.cell? ⟨w.heap.size,4,none⟩=some (.int .i64 0):=cell_at 4 hR6
   have gs0:=free_at 0 hR6
   have gs1:=free_at 1 hR6
   have gs2:=free_at 2 hR6
   have gs3:=free_at 3 hR6
   have gs4:=free_at 4 hR6
   have HO6:=Hd o6
   have HR6:=Hd hR6
   clear o6 hE6 hR6 gy3 x0 x1 x2 x3 x4
   go_wp2_with fail
   (try simp only [Exit.inBlock,Exit.then])
   refine bodyPost_ret (res_small _ _ w.heap.size _ _ _ _ _ (.int .i64 (zR r)) rfl rfl (five_set HR6.out _ _ _ _ _)) rfl ?_
   have hRR:=HRR.out
   have hsz:=(Array.getElem?_eq_some_iff.1 HC.out).1
   have hkl:Only [w.heap.size+1+1,w.heap.size] w6 (((((w6.setCell ⟨w.heap.size,0,none⟩ (.int .i64 4)).setCell ⟨w.heap.size,1,none⟩ (.int .i64 0)).setCell ⟨w.heap.size,2,none⟩ (.string ⟨#[]⟩)).setCell ⟨w.heap.size,3,none⟩ (.slice (some ⟨w5.heap.size,0,none⟩) 1 1)).setCell ⟨w.heap.size,4,none⟩ (.int .i64 (ps:Int))):=
    (((((Only.refl _ _).setCell (.inl (by simp)) _).setCell (.inl (by simp)) _).setCell (.inl (by simp)) _).setCell (.inl (by simp)) _).setCell (.inl (by simp)) _
   have HKL:=Hd (HO6.out.trans hkl (fun k hk=>.inl hk))
   clear hkl
   generalize ((((w6.setCell ⟨w.heap.size,0,none⟩ (.int .i64 4)).setCell ⟨w.heap.size,1,none⟩ (.int .i64 0)).setCell ⟨w.heap.size,2,none⟩ (.string ⟨#[]⟩)).setCell ⟨w.heap.size,3,none⟩ (.slice (some ⟨w5.heap.size,0,none⟩) 1 1)).setCell ⟨w.heap.size,4,none⟩ (.int .i64 (ps:Int))=w7 at HKL⊢
   cases r with
   | error k2=>
    rw [hRR]
    refine RE.bad rfl ?_
    refine (((HO.out.trans HO4.out (by simp)).trans (T:=[w.heap.size+1+1]) HO5.out (fun k hk=>.inr ?_)).trans (T:=[w.heap.size+1+1,w.heap.size]) (((Only.refl [w.heap.size+1+1,w.heap.size] w5).alloc _).trans HKL.out (fun k hk=>.inl hk)) (fun k hk=>.inr ?_))
    ·rw [List.mem_singleton.1 hk];omega
    ·rcases List.mem_cons.1 hk with rfl | hk
     ·omega
     ·rw [List.mem_singleton.1 hk];exact Nat.le_refl _
   | ok x2=>
    obtain ⟨t,a2⟩:=x2
    rw [hRR]
    exact RE.one (gE:=w.heap.size+1+1) (gR:=w.heap.size) (HV.out t a2 rfl) HO.out HO4.out ⟨by omega,hsz⟩ ⟨Nat.le_refl _,by omega⟩ HO5.out HKL.out rfl rfl
end
end Go.Proofs.YtheanmadognhbaaGreatDoor
