import Derived.Test.YtagkbbcpbebapaaZbr
import Derived.Test.YtagkbbcpbebapaaZar
import Derived.Test.YtagkbbcpbebapaaWar
namespace Go.Proofs.Ytagkbbcpbebapaa
open Go.RowKit Go.Maps
set_option linter.unusedSimpArgs false
set_option linter.unusedVariables false
def miss:List Sec→Nms→Nat
 | [],_=>0
 | z :: l,m=>(if (m z).isSome=true then 0 else 1)+miss l m
theorem miss_le (m:Nms) (k:Sec) (v:Int):∀ L,miss L (nput m k v)≤miss L m
 | []=>Nat.le_refl _
 | z :: l=>by
  have:=miss_le m k v l
  unfold miss
  by_cases e:z=k
  ·subst e
   have h:(nput m z v z).isSome=true:=by unfold nput;rw [if_pos rfl];rfl
   rw [if_pos h]
   split<;>omega
  ·rw [nput_ne e]
   omega
theorem miss_lt {m:Nms} {k:Sec} (v:Int) (hm:(m k).isSome=false):∀ {L:List Sec},k∈L→miss L (nput m k v)+1≤miss L m
 | z :: l,h=>by
  unfold miss
  by_cases e:z=k
  ·subst e
   have h1:(nput m z v z).isSome=true:=by unfold nput;rw [if_pos rfl];rfl
   rw [if_pos h1,hm]
   have:=miss_le m z v l
   simp
   omega
  ·rw [nput_ne e]
   have:=miss_lt v hm (L:=l) (by simpa [Ne.symm e] using h)
   omega
theorem NMap.tight {w:World} {b n cnt:Nat} {e:TypeId} {m:Nms} (h:NMap w b e n cnt m):NMap w b e cnt cnt m:=by
 obtain ⟨D,⟨es,clock,h1,h2,h3,h4⟩,hr,hs⟩:=h
 refine ⟨D,⟨es,clock,h1,h2,?_,h4⟩,hr,hs⟩
 rw [← hs,h4]
 show es.size≤List.length _
 rw [length_read]
 exact Nat.le_refl _
def runA (n:Int) (c:List Int) (b:Nat):Array Value:=(iv (n :: c)++[Value.map (some b)]).toArray
theorem runA_cell {n:Int} {c:List Int} {b i:Nat} {z:Int} (h:c[i]?=some z):(runA n c b)[1+i]?=some (.int .i64 z):=by
 have hi:i < c.length:=(List.getElem?_eq_some_iff.1 h).1
 have hlt:1+i < (iv (n :: c)).length:=by rw [iv_length,List.length_cons];omega
 unfold runA
 rw [List.getElem?_toArray,List.getElem?_append_left hlt]
 have:(iv (n :: c))[1+i]?=((n :: c)[1+i]?).map (Value.int .i64):=by unfold iv;rw [List.getElem?_map]
 rw [this,Nat.add_comm,List.getElem?_cons_succ,h]
 rfl
theorem runA_names {n:Int} {c:List Int} {b:Nat} (h:c.length=60):(runA n c b)[61]?=some (.map (some b)):=by
 have hl:(iv (n :: c)).length=61:=by rw [iv_length,List.length_cons,h]
 unfold runA
 rw [List.getElem?_toArray,List.getElem?_append_right (by omega),hl]
 rfl
theorem runA_set {n:Int} {c:List Int} {b i:Nat} (hi:i < c.length) (v:Int):(runA n c b).setIfInBounds (1+i) (.int .i64 v)=runA n (c.set i v) b:=by
 have hlt:1+i < (iv (n :: c)).length:=by rw [iv_length,List.length_cons];omega
 unfold runA
 rw [List.setIfInBounds_toArray,List.set_append_left _ _ hlt]
 congr 2
 have:(iv (n :: c)).set (1+i) (Value.int .i64 v)=iv ((n :: c).set (1+i) v):=by simp [iv,List.map_set]
 rw [this,Nat.add_comm,List.set_cons_succ]
structure RM (w:World) (g b:Nat) (L:List Sec) (C:Nat) (n:Int) (s:PS):Prop where
 row:w.heap[g]?=some (.cells (runA n s.c b) 72 (0,0))
 names:∃ cnt,NMap w b 3 cnt cnt s.m∧cnt+miss L s.m≤C
 sw:SW s
 lim:C≤60000
section
variable {w w':World} {g b:Nat} {L:List Sec} {C:Nat} {n:Int} {s:PS}
theorem RM.kept {S:List Nat} (h:RM w g b L C n s) (ho:Only S w w') (hg:g∉S) (hb:b∉S):RM w' g b L C n s:=by
 obtain ⟨cnt,h1,h2⟩:=h.names
 exact ⟨ho.heap h.row hg,⟨cnt,h1.kept ho hb,h2⟩,h.sw,h.lim⟩
theorem RM.quiet (h:RM w g b L C n s) (ho:Only [] w w'):RM w' g b L C n s:=h.kept ho (by simp) (by simp)
theorem RM.g_lt (h:RM w g b L C n s):g < w.heap.size:=lt_of_heap h.row
theorem RM.b_lt (h:RM w g b L C n s):b < w.heap.size:=by obtain ⟨cnt,h1,_⟩:=h.names;exact h1.lt
theorem RM.ne (h:RM w g b L C n s):b≠g:=by obtain ⟨cnt,h1,_⟩:=h.names;exact h1.ne h.row
theorem RM.map (h:RM w g b L C n s):w.cell? ⟨g,61,none⟩=some (.map (some b)):=by rw [cell_at 61 h.row];exact runA_names h.sw.1.len
theorem RM.cell (h:RM w g b L C n s) {i:Nat} (hi:i < 60):w.cell? ⟨g,1+i,none⟩=some (.int .i64 (s.c.getD i 0)):=by
 have hl:i < s.c.length:=by rw [h.sw.1.len];exact hi
 rw [cell_at _ h.row]
 refine runA_cell ?_
 rw [List.getD_eq_getElem?_getD,List.getElem?_eq_getElem hl]
 rfl
theorem RM.free (h:RM w g b L C n s) (i:Nat):w.frozen? ⟨g,i,none⟩=false:=free_at i h.row
theorem RM.set (h:RM w g b L C n s) {i:Nat} (hi:i < 60) {v:Int} (hv:n64 v):RM (w.setCell ⟨g,1+i,none⟩ (.int .i64 v)) g b L C n ⟨s.c.set i v,s.m⟩:=by
 have ho:Only [g] w (w.setCell ⟨g,1+i,none⟩ (.int .i64 v)):=(Only.refl _ _).setCell (.inl (by simp)) _
 obtain ⟨cnt,h1,h2⟩:=h.names
 have hl:i < s.c.length:=by rw [h.sw.1.len];exact hi
 have hr:=heap_cell (i:=1+i) (.int .i64 v) h.row
 rw [runA_set hl] at hr
 exact ⟨hr,⟨cnt,h1.kept ho (by simpa using h.ne),h2⟩,⟨h.sw.1.set i hv,h.sw.2⟩,h.lim⟩
theorem RM.put {cnt:Nat} {k:Sec} {v:Int} (h:RM w g b L C n s) (hk:k∈L) (hv:n64 v) (hc:cnt+miss L s.m≤C)
  (hm:NMap w' b 3 (cnt+1) (if (s.m k).isSome=true then cnt else cnt+1) (nput s.m k v)) (ho:Only [b] w w'):RM w' g b L C n ⟨s.c,nput s.m k v⟩:=by
 refine ⟨ho.heap h.row (by simpa using h.ne.symm),⟨_,hm.tight,?_⟩,⟨h.sw.1,h.sw.2.put k hv⟩,h.lim⟩
 show (if (s.m k).isSome=true then cnt else cnt+1)+miss L (nput s.m k v)≤C
 cases hq:(s.m k).isSome with
 | true=>
  rw [if_pos rfl]
  have:=miss_le s.m k v L
  omega
 | false=>
  rw [if_neg (by decide)]
  have:=miss_lt v hq hk
  omega
theorem run_load_pg (h:RM w g b L C n s):(loadVar 45 ⟨g,0,none⟩).run Try.prog w=.ok (.agg (ivA (n :: s.c))) w:=by
 have hlen:s.c.length=60:=h.sw.1.len
 have h1:(loadCells ⟨g,0,none⟩ (iv (n :: s.c)).length).run Try.prog w=.ok (iv (n :: s.c)).toArray w:=
  run_loadCells_list (P:=Try.prog) w ⟨g,0,none⟩ (iv (n :: s.c)) (fun j v hv=>by
   have hadd:(⟨g,0,none⟩:Addr).add j=⟨g,j,none⟩:=by unfold Addr.add;split<;>simp_all
   have hj:j < (iv (n :: s.c)).length:=(List.getElem?_eq_some_iff.1 hv).1
   rw [hadd,cell_at _ h.row]
   unfold runA
   rw [List.getElem?_toArray,List.getElem?_append_left hj]
   exact hv)
 have hs:=size_run (w:=w) (size_page (n :: s.c) (by rw [List.length_cons,hlen]))
 rw [ivA_size,List.length_cons,hlen] at hs
 rw [iv_length,List.length_cons,hlen] at h1
 simp [loadVar,isAgg,run_underlying Try.underlying45,hs,h1,ivA]
theorem exec_load_pg (h:RM w g b L C n s) (o:Oper) (ρ:Operand→Value) (x:Operand) (ho:o.op=.load 45 x) (hx:ρ x=.pointer (some ⟨g,0,none⟩)) :
  (execOp ρ o).run Try.prog w=.ok (.value (.agg (ivA (n :: s.c)))) w:=by
 simp [execOp,ho,hx,Instr.loadAt,Instr.sureAddr,run_load_pg h,Result.andThen]
theorem wpList_load_pg {ops:Array Oper} {rest:List Oper} {o:Oper} {a:Act} {Q:Exit→Act→World→Prop} (hgd:o.guard=none) (x:Operand) (ho:o.op=.load 45 x) (h:RM w g b L C n s) (hx:a.eval x=.pointer (some ⟨g,0,none⟩))
  (hk:wpList Try.prog ops Q rest (a.put o.dst (.agg (ivA (n :: s.c)))) w):wpList Try.prog ops Q (o :: rest) a w:=
 wpList_run hgd (.agg (ivA (n :: s.c))) (exec_load_pg h o _ x ho hx) hk
theorem Get_any {c:List Int} (hc:CW c) (n k:Int) (hk:n64 k) (w:World) :
  Calls Try.prog 47 #[.agg (ivA (n :: c)),.int .i64 k] w fun e w'=>e=.returned (.tuple #[.int .i64 (getC c k),.bool (decide (inC k))])∧Only [] w w':=by
 by_cases h:inC k
 ·have hl:k.toNat < c.length:=by rw [hc.len];omega
  have e:getC c k=c[k.toNat]:=by unfold getC;rw [if_pos h,List.getD_eq_getElem?_getD,List.getElem?_eq_getElem hl];rfl
  have K:=Get_yes n c k.toNat c[k.toNat] w (by omega) (List.getElem?_eq_getElem hl)
  rw [show ((k.toNat:Nat):Int)=k by omega] at K
  rw [e,decide_eq_true h]
  exact K
 ·have e:getC c k=0:=by unfold getC;rw [if_neg h]
  rw [e,decide_eq_false h]
  exact Get_no (n :: c) k w hk.1 hk.2 h
def cellP (g:Nat) (i:Int):Value:=.pointer (if inC i then some ⟨g,1+i.toNat,none⟩ else none)
set_option maxRecDepth 100000 in
set_option maxHeartbeats 4000000 in
theorem pcell_any (h:RM w g b L C n s) (i:Int) (hi:n64 i) :
  Calls Try.prog 74 #[.pointer (some ⟨g,0,none⟩),.int .i64 i] w fun e w'=>e=.returned (cellP g i)∧Only [] w w':=by
 have H:=Hd h
 have HI:=Hd hi
 obtain ⟨R,hR⟩:∃ R,R=cellP g i:=⟨_,rfl⟩
 rw [← hR]
 have HR:=Hd hR
 clear h hi hR
 go_enter Try.func74,Try.ntmps74
 go_wp2_with (refine wpList_load_pg rfl _ rfl H.out (by rfl) ?_)
 refine (Get_any H.out.sw.1 n i HI.out w).mono ?_
 rintro e w1 ⟨rfl,o1⟩
 have HO:=Hd o1
 clear o1
 by_cases hc:inC i
 ·obtain ⟨k,rfl⟩:∃ k:Nat,i=(k:Int):=⟨i.toNat,by omega⟩
  have hR:R=.pointer (some ⟨g,1+k,none⟩):=by rw [HR.out];unfold cellP;rw [if_pos hc];rfl
  have hk:(k:Int) < 60:=hc.2
  have hk0:(0:Int)≤(k:Int):=hc.1
  rw [decide_eq_true hc]
  have HRR:=Hd hR
  clear hR hc HR
  go_wp2_with fail
  go_ret
  rw [HRR.out]
  exact ⟨rfl,HO.out⟩
 ·have hR:R=.pointer none:=by rw [HR.out];unfold cellP;rw [if_neg hc]
  rw [decide_eq_false hc]
  have HRR:=Hd hR
  clear hR hc HR
  go_wp2_with fail
  go_ret
  rw [HRR.out]
  exact ⟨rfl,HO.out⟩
end
end Go.Proofs.Ytagkbbcpbebapaa
namespace Go.Proofs.Ytagkbbcpbebapaa
open Go.RowKit Go.Maps
set_option linter.unusedSimpArgs false
set_option linter.unusedVariables false
section
variable {w w':World} {g b:Nat} {L:List Sec} {C:Nat} {n:Int} {s:PS}
set_option maxRecDepth 100000 in
set_option maxHeartbeats 4000000 in
theorem named_any {cnt:Nat} {m:Nms} (hm:NMap w b 3 cnt cnt m) {nm:Sec} (hnm:nm.length≤65536) :
  Calls Try.prog 46 #[.string (strOf nm),.map (some b)] w fun e w'=>(∃ ok,e=.returned (.tuple #[.int .i64 (nmV m nm),.bool ok]))∧w=w':=by
 have hl:=hm.look Try.underlying70 Try.underlying3 zero_int hnm
 obtain ⟨V,hV⟩:∃ V,V=nmV m nm:=⟨_,rfl⟩
 rw [← hV]
 obtain ⟨sn,hsn⟩:∃ sn,sn=strOf nm:=⟨_,rfl⟩
 rw [← hsn] at hl⊢
 have hd:sn.data.toList=nm:=by rw [hsn];simp [strOf]
 unfold nmV at hV
 clear hm hsn
 by_cases h1:nm=[116,114,117,101]
 ·rw [if_pos h1] at hV
  subst hV
  obtain rfl:=str_eq_iff.2 (hd.trans h1)
  clear hd h1 hl
  go_enter Try.func46,Try.ntmps46
  go_wp2_with fail
  refine (truth_any _ _).mono ?_
  rintro e w1 ⟨rfl,rfl⟩
  go_wp2_with fail
  go_ret2
  exact ⟨⟨true,rfl⟩,rfl⟩
 ·rw [if_neg h1] at hV
  by_cases h2:nm=[102,97,108,115,101]
  ·rw [if_pos h2] at hV
   subst hV
   obtain rfl:=str_eq_iff.2 (hd.trans h2)
   clear hd h1 h2 hl
   go_enter Try.func46,Try.ntmps46
   go_wp2_with fail
   refine (truth_any _ _).mono ?_
   rintro e w1 ⟨rfl,rfl⟩
   go_wp2_with fail
   go_ret2
   exact ⟨⟨true,rfl⟩,rfl⟩
  ·rw [if_neg h2] at hV
   rw [← hV] at hl
   have n1:(sn.toList == [116,114,117,101])=false:=str_neq (fun e=>h1 (hd.symm.trans e))
   have n2:(sn.toList == [102,97,108,115,101])=false:=str_neq (fun e=>h2 (hd.symm.trans e))
   clear hd h1 h2 hV
   generalize (m nm).isSome=ok at hl
   go_enter Try.func46,Try.ntmps46
   go_wp2_with fail
   go_ret2
   exact ⟨⟨ok,rfl⟩,rfl⟩
set_option maxRecDepth 100000 in
set_option maxHeartbeats 4000000 in
theorem change_any (h:RM w g b L C n s) (k i v:Int) (hv:n64 v) :
  Calls Try.prog 75 #[.int .i64 k,cellP g i,.int .i64 v] w fun e w'=>e=.returned (.tuple #[])∧RM w' g b L C n ⟨chgC k s.c i v,s.m⟩∧Only [g] w w':=by
 by_cases hi:inC i
 ·obtain ⟨j,rfl⟩:∃ j:Nat,i=(j:Int):=⟨i.toNat,by omega⟩
  have hj:j < 60:=by omega
  have e1:cellP g (j:Int)=.pointer (some ⟨g,1+j,none⟩):=by unfold cellP;rw [if_pos hi];rfl
  have e2:getC s.c (j:Int)=s.c.getD j 0:=by unfold getC;rw [if_pos hi];rfl
  have hc:=h.cell hj
  have hf:=h.free (1+j)
  have H:=Hd h
  have hset:∀ u,n64 u→RM (w.setCell ⟨g,1+j,none⟩ (.int .i64 u)) g b L C n ⟨s.c.set j u,s.m⟩∧Only [g] w (w.setCell ⟨g,1+j,none⟩ (.int .i64 u)):=fun u hu=>⟨h.set hj hu,(Only.refl _ _).setCell (.inl (by simp)) _⟩
  have HSET:=Hd hset
  rw [e1]
  unfold chgC
  rw [if_pos hi,e2]
  rw [show ((j:Int)).toNat=j from rfl]
  generalize s.c.getD j 0=old at hc⊢
  clear h hi e1 e2 hset
  by_cases k2:k=2
  ·subst k2
   have HR:=Hd (HSET.out v hv)
   rw [if_pos rfl]
   go_enter Try.func75,Try.ntmps75
   go_wp2_with fail
   go_end0
   exact ⟨rfl,HR.out⟩
  ·rw [if_neg k2]
   have k2':(k == 2)=false:=by simpa using k2
   by_cases k3:k=3
   ·subst k3
    have HR:=Hd (HSET.out (wrap64 (old+v)) (n64_wrap _))
    rw [if_pos rfl]
    go_enter Try.func75,Try.ntmps75
    go_wp2_with fail
    go_end0
    exact ⟨rfl,HR.out⟩
   ·rw [if_neg k3]
    have k3':(k == 3)=false:=by simpa using k3
    by_cases k4:k=4
    ·subst k4
     have HR:=Hd (HSET.out (wrap64 (old - v)) (n64_wrap _))
     rw [if_pos rfl]
     go_enter Try.func75,Try.ntmps75
     go_wp2_with fail
     go_end0
     exact ⟨rfl,HR.out⟩
    ·rw [if_neg k4]
     have k4':(k == 4)=false:=by simpa using k4
     clear hc hf
     go_enter Try.func75,Try.ntmps75
     go_wp2_with fail
     go_end0
     exact ⟨rfl,H.out,Only.refl _ _⟩
 ·have e1:cellP g i=.pointer none:=by unfold cellP;rw [if_neg hi]
  have e2:chgC k s.c i v=s.c:=by unfold chgC;rw [if_neg hi]
  have H:=Hd h
  rw [e1,e2]
  clear h e1 e2 hi
  go_enter Try.func75,Try.ntmps75
  go_wp2_with fail
  (try simp only [Exit.inBlock,Exit.then])
  refine bodyPost_ret (results_none rfl _ _ _) rfl ?_
  exact ⟨rfl,H.out,Only.refl _ _⟩
set_option maxRecDepth 100000 in
set_option maxHeartbeats 4000000 in
theorem swap_any (h:RM w g b L C n s) (i j:Int) :
  Calls Try.prog 73 #[cellP g i,cellP g j] w fun e w'=>e=.returned (.tuple #[])∧RM w' g b L C n ⟨swpC s.c i j,s.m⟩∧Only [g] w w':=by
 by_cases hi:inC i
 ·obtain ⟨i',rfl⟩:∃ i':Nat,i=(i':Int):=⟨i.toNat,by omega⟩
  have hi':i' < 60:=by omega
  have e1:cellP g (i':Int)=.pointer (some ⟨g,1+i',none⟩):=by unfold cellP;rw [if_pos hi];rfl
  by_cases hj:inC j
  ·obtain ⟨j',rfl⟩:∃ j':Nat,j=(j':Int):=⟨j.toNat,by omega⟩
   have hj':j' < 60:=by omega
   have e2:cellP g (j':Int)=.pointer (some ⟨g,1+j',none⟩):=by unfold cellP;rw [if_pos hj];rfl
   have e3:swpC s.c (i':Int) (j':Int)=(s.c.set i' (getC s.c j')).set j' (getC s.c i'):=by unfold swpC;rw [if_pos ⟨hi,hj⟩];rfl
   have ci:=h.cell hi'
   have cj:=h.cell hj'
   have f1:getC s.c (i':Int)=s.c.getD i' 0:=by unfold getC;rw [if_pos hi];rfl
   have f2:getC s.c (j':Int)=s.c.getD j' 0:=by unfold getC;rw [if_pos hj];rfl
   rw [← f1] at ci
   rw [← f2] at cj
   have H:=Hd h
   have n1:=h.sw.1.get (i':Int)
   have n2:=h.sw.1.get (j':Int)
   rw [e1,e2,e3]
   generalize getC s.c (i':Int)=x at ci n1⊢
   generalize getC s.c (j':Int)=y at cj n2⊢
   have N1:=Hd n1
   have N2:=Hd n2
   clear h e1 e2 e3 f1 f2 hi hj n1 n2
   go_enter Try.func73,Try.ntmps73
   go_upto_region 1 with (fail)
   have oD:Only [] w w.drew:=(Only.refl [] w).drew
   replace H:=Hd (H.out.quiet oD)
   replace ci:=cell_kept oD ci (by simp)
   replace cj:=cell_kept oD cj (by simp)
   refine wp_region_C (S:=fun w'=>w'.cell? ⟨g,1+i',none⟩=some (.int .i64 x)∧w'.cell? ⟨g,1+j',none⟩=some (.int .i64 y)) [0,1,2,3,4,5,6,7,8,10] (by kernel_rfl) ⟨ci,cj⟩ (fun hH=>?_)
   have HD:=Hd oD
   clear oD
   generalize w.drew=w1 at H HD ci cj hH⊢
   refine takeP_list (i:=0) (v:=?_) rfl (by kernel_rfl) (by kernel_rfl) (by kernel_rfl) (fun _ _ _ h=>h) (Or.inl ⟨by rfl,?_⟩) ?_
   rotate_left
   ·((intro w hSw;(try dsimp only at hSw);go_simp);try with_reducible rfl)
   simp only [Act.put,List.setIfInBounds_toArray,List.set_cons_zero,List.set_cons_succ]
   refine takeP_list (i:=1) (v:=?_) rfl (by kernel_rfl) (by kernel_rfl) (by kernel_rfl) (fun _ _ _ h=>h) (Or.inl ⟨by rfl,?_⟩) ?_
   rotate_left
   ·((intro w hSw;(try dsimp only at hSw);go_simp);try with_reducible rfl)
   simp only [Act.put,List.setIfInBounds_toArray,List.set_cons_zero,List.set_cons_succ]
   refine takeP_list (i:=2) (v:=?_) rfl (by kernel_rfl) (by kernel_rfl) (by kernel_rfl) (fun _ _ _ h=>h) (Or.inl ⟨by rfl,?_⟩) ?_
   rotate_left
   ·((intro w hSw;(try dsimp only at hSw);go_simp);try with_reducible rfl)
   simp only [Act.put,List.setIfInBounds_toArray,List.set_cons_zero,List.set_cons_succ]
   refine takeP_list (i:=3) (v:=?_) rfl (by kernel_rfl) (by kernel_rfl) (by kernel_rfl) (fun _ _ _ h=>h) (Or.inl ⟨by rfl,?_⟩) ?_
   rotate_left
   ·((intro w hSw;(try dsimp only at hSw);go_simp);try with_reducible rfl)
   simp only [Act.put,List.setIfInBounds_toArray,List.set_cons_zero,List.set_cons_succ]
   refine takeC_list (i:=4) (v:=?_) rfl (by kernel_rfl) (by kernel_rfl) (by kernel_rfl) (by kernel_rfl) (fun _ _ _ h=>h) (Or.inl ⟨by rfl,?_⟩) hH ?_
   rotate_left
   ·((intro w hSw;(try dsimp only at hSw);go_simp);try with_reducible rfl)
   simp only [Act.put,List.setIfInBounds_toArray,List.set_cons_zero,List.set_cons_succ]
   refine takeP_list (i:=5) (v:=?_) rfl (by kernel_rfl) (by kernel_rfl) (by kernel_rfl) (fun _ _ _ h=>h) (Or.inl ⟨by rfl,?_⟩) ?_
   rotate_left
   ·((intro w hSw;(try dsimp only at hSw);go_simp);try with_reducible rfl)
   simp only [Act.put,List.setIfInBounds_toArray,List.set_cons_zero,List.set_cons_succ]
   refine takeP_list (i:=6) (v:=?_) rfl (by kernel_rfl) (by kernel_rfl) (by kernel_rfl) (fun _ _ _ h=>h) (Or.inl ⟨by rfl,?_⟩) ?_
   rotate_left
   ·((intro w hSw;(try dsimp only at hSw);go_simp);try with_reducible rfl)
   simp only [Act.put,List.setIfInBounds_toArray,List.set_cons_zero,List.set_cons_succ]
   refine takeC_list (i:=7) (v:=?_) rfl (by kernel_rfl) (by kernel_rfl) (by kernel_rfl) (by kernel_rfl) (fun _ _ _ h=>h) (Or.inl ⟨by rfl,?_⟩) hH ?_
   rotate_left
   ·((intro w hSw;(try dsimp only at hSw);go_simp);try with_reducible rfl)
   simp only [Act.put,List.setIfInBounds_toArray,List.set_cons_zero,List.set_cons_succ]
   refine takeP_list (i:=8) (v:=?_) rfl (by kernel_rfl) (by kernel_rfl) (by kernel_rfl) (fun _ _ _ h=>h) (Or.inl ⟨by rfl,?_⟩) ?_
   rotate_left
   ·((intro w hSw;(try dsimp only at hSw);go_simp);try with_reducible rfl)
   simp only [Act.put,List.setIfInBounds_toArray,List.set_cons_zero,List.set_cons_succ]
   have hfi:=H.out.free (1+i')
   refine readyC_out (i:=9) (by kernel_rfl) (by kernel_rfl) rfl (fun K hK=>?_)
   go_simp
   have H2:=Hd (H.out.set hi' N2.out)
   have o2:Only [g] w1 (w1.setCell ⟨g,1+i',none⟩ (.int .i64 y)):=(Only.refl _ _).setCell (.inl (by simp)) _
   have HO2:=Hd ((HD.out.mono (T:=[g]) (by simp)).trans o2 (fun k hk=>.inl hk))
   clear o2 ci cj hfi
   generalize w1.setCell ⟨g,1+i',none⟩ (.int .i64 y)=w2 at H2 HO2⊢
   refine hK.out _ _ ?_
   clear hK K hH
   refine takeP_list (i:=10) (v:=?_) rfl (by kernel_rfl) (by kernel_rfl) (by kernel_rfl) (fun _ _ _ h=>h) (Or.inl ⟨by rfl,?_⟩) ?_
   rotate_left
   ·((intro w hSw;(try dsimp only at hSw);go_simp);try with_reducible rfl)
   simp only [Act.put,List.setIfInBounds_toArray,List.set_cons_zero,List.set_cons_succ]
   have cj:=H2.out.cell hj'
   have hfj:=H2.out.free (1+j')
   refine readyC_out (i:=11) (by kernel_rfl) (by kernel_rfl) rfl (fun K hK=>?_)
   go_simp
   have H3:=Hd (H2.out.set hj' N1.out)
   have o3:Only [g] w2 (w2.setCell ⟨g,1+j',none⟩ (.int .i64 x)):=(Only.refl _ _).setCell (.inl (by simp)) _
   have HO3:=Hd (HO2.out.trans o3 (fun k hk=>.inl hk))
   clear o3 cj hfj
   generalize w2.setCell ⟨g,1+j',none⟩ (.int .i64 x)=w3 at H3 HO3⊢
   refine hK.out _ _ ?_
   clear hK K
   refine wpAnyC_done (by kernel_rfl) ?_ _
   go_wp2_with fail
   go_end0
   exact ⟨rfl,H3.out,HO3.out⟩
  ·have e2:cellP g j=.pointer none:=by unfold cellP;rw [if_neg hj]
   have e3:swpC s.c (i':Int) j=s.c:=by unfold swpC;rw [if_neg (fun h=>hj h.2)]
   have H:=Hd h
   rw [e1,e2,e3]
   clear h e1 e2 e3 hi hj
   go_enter Try.func73,Try.ntmps73
   go_wp2_with fail
   go_end0
   exact ⟨rfl,H.out,Only.refl _ _⟩
 ·have e1:cellP g i=.pointer none:=by unfold cellP;rw [if_neg hi]
  have e3:swpC s.c i j=s.c:=by unfold swpC;rw [if_neg (fun h=>hi h.1)]
  have H:=Hd h
  rw [e1,e3]
  obtain ⟨Q,hQ⟩:∃ Q,Q=cellP g j:=⟨_,rfl⟩
  rw [← hQ]
  obtain ⟨q,rfl⟩:∃ q,Q=.pointer q:=⟨_,hQ⟩
  clear h e1 e3 hi hQ
  go_enter Try.func73,Try.ntmps73
  go_wp2_with fail
  go_end0
  exact ⟨rfl,H.out,Only.refl _ _⟩
end
end Go.Proofs.Ytagkbbcpbebapaa
