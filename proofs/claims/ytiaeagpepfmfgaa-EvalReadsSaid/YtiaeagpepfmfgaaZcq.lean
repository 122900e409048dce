import Derived.Test.YtiaeagpepfmfgaaK3q
import Derived.ChangeKeysEq
import Derived.BigQuiet
import Derived.Test.YtiaeagpepfmfgaaKcq
import Derived.Carry
namespace Go.Proofs.Ytiaeagpepfmfgaa
open Go.RowKit Go.Maps
set_option linter.unusedSimpArgs false
set_option linter.unusedVariables false
abbrev In64 (z:Int):Prop:=-9223372036854775808≤z∧z≤9223372036854775807
def blankP:List Int:=List.replicate 60 0
def ivA (l:List Int):Array Value:=(iv l).toArray
theorem ivA_size (l:List Int):(ivA l).size=l.length:=by simp [ivA,iv]
theorem ivA_get (l:List Int) (i:Nat):(ivA l)[i]?=(l[i]?).map (Value.int .i64):=by simp [ivA,iv]
theorem ivA_one (l:List Int):(ivA l).all (·.oneCell')=true:=by simp [ivA,iv,Value.oneCell']
theorem ivA_set (l:List Int) (i:Nat) (z:Int):(ivA l).setIfInBounds i (.int .i64 z)=ivA (l.set i z):=by simp [ivA,iv,List.map_set]
theorem ivA_extract (l:List Int) (i j:Nat):(ivA l).extract i j=ivA ((l.take j).drop i):=by
 simp [ivA,iv,List.extract_eq_take_drop,List.drop_take,List.map_take,List.map_drop]
def PB (w:World) (g:Nat) (t:TypeId) (l:List Int):Prop:=w.heap[g]?=some (.cells (ivA l) t (0,0))
section
variable {w w':World} {g:Nat} {t:TypeId} {l:List Int}
theorem PB.kept {S:List Nat} (h:PB w g t l) (ho:Only S w w') (hn:g∉S):PB w' g t l:=ho.heap h hn
theorem PB.lt (h:PB w g t l):g < w.heap.size:=lt_of_heap h
theorem PB.cell (h:PB w g t l) {i:Nat} {z:Int} (hi:l[i]?=some z):w.cell? ⟨g,i,none⟩=some (.int .i64 z):=by
 rw [cell_at i h,ivA_get,hi]
 rfl
theorem PB.free (h:PB w g t l) (i:Nat):w.frozen? ⟨g,i,none⟩=false:=free_at i h
theorem PB.new (w:World) (t:TypeId) (l:List Int):PB (w.alloc (.cells (ivA l) t)) w.heap.size t l:=heap_new w _
theorem PB.set (h:PB w g t l) (i:Nat) (z:Int):PB (w.setCell ⟨g,i,none⟩ (.int .i64 z)) g t (l.set i z):=by
 have:=heap_cell (i:=i) (.int .i64 z) h
 rw [ivA_set] at this
 exact this
theorem PB.row (h:PB w g t l) (m:List Int):PB (w.setRow g (ivA m)) g t m:=heap_row _ h
end
theorem eqItems_int {P:Program} {e:TypeId} (he:P.underlying e=some (.int .i64)) (d:Nat) (xs ys:List Int) (w:World):∀ (is:List Nat),(∀ i∈is,i < xs.length∧i < ys.length)→
  (Op.eqItems (d+1) e 1 (ivA xs) (ivA ys) is).run P w=.ok (is.all fun i=>xs.getD i 0 == ys.getD i 0) w
 | [],_=>by simp [Op.eqItems]
 | i :: is,h=>by
  obtain ⟨h1,h2⟩:=h i (by simp)
  have ih:=eqItems_int he d xs ys w is (fun j hj=>h j (by simp [hj]))
  have px:(part e (ivA xs) (i*1)).run P w=.ok (.int .i64 (xs.getD i 0)) w:=by
   simp [part,isAgg,run_underlying he,ivA_get,List.getD,List.getElem?_eq_getElem h1]
  have py:(part e (ivA ys) (i*1)).run P w=.ok (.int .i64 (ys.getD i 0)) w:=by
   simp [part,isAgg,run_underlying he,ivA_get,List.getD,List.getElem?_eq_getElem h2]
  simp only [Op.eqItems,Sem.run_bind,px,py,run_equalIn_int w d e .i64 .i64 _ _ he,Result.andThen_ok,List.all_cons]
  cases hb:(xs.getD i 0 == ys.getD i 0)
  ·simp
  ·simp only [Bool.not_true,Bool.false_eq_true,if_false,Bool.true_and]
   exact ih
theorem all_getD (xs ys:List Int) (n:Nat) (hx:xs.length=n) (hy:ys.length=n):((List.range n).all fun i=>xs.getD i 0 == ys.getD i 0)=decide (xs=ys):=by
 rw [Bool.eq_iff_iff]
 simp only [List.all_eq_true,List.mem_range,beq_iff_eq,decide_eq_true_eq]
 constructor
 ·intro h
  apply List.ext_getElem (by omega)
  intro i h1 h2
  have:=h i (by omega)
  simpa [List.getD,List.getElem?_eq_getElem h1,List.getElem?_eq_getElem h2] using this
 ·rintro rfl i _
  rfl
theorem info_cells:(Try.prog.info? 33).map (fun i=>(i.zero,i.size))=some (some (.agg (ivA (List.replicate 60 0))),60):=by kernel_rfl
theorem info_page:(Try.prog.info? 35).map (fun i=>(i.zero,i.size))=some (some (.agg (ivA (List.replicate 61 0))),61):=by kernel_rfl
theorem size_cells (l:List Int) (h:l.length=60):(Try.prog.info? 33).map (·.size)=some (ivA l).size:=by
 rw [ivA_size,h]
 kernel_rfl
theorem size_page (l:List Int) (h:l.length=61):(Try.prog.info? 35).map (·.size)=some (ivA l).size:=by
 rw [ivA_size,h]
 kernel_rfl
theorem cells_of_int:Try.prog.cellsOf 3=1:=by kernel_rfl
theorem equal_cells (d:Nat) (xs ys:List Int) (hx:xs.length=60) (hy:ys.length=60) (w:World) :
  (Op.equalIn (d+2) 33 (.agg (ivA xs)) (.agg (ivA ys))).run Try.prog w=.ok (decide (xs=ys)) w:=by
 obtain ⟨i,hi,-⟩:=Option.map_eq_some_iff.1 info_int
 rw [run_equalIn_array w (d+1) (ivA xs) (ivA ys) Try.underlying33 hi,cells_of_int,eqItems_int Try.underlying3 d xs ys w _ (fun i hi=>by simp at hi;omega),all_getD xs ys 60 hx hy]
theorem fields_page:(Try.prog.fieldsOf 35).toList.map (fun f=>(f.name == "_",f.type,f.offset))=[(false,3,0),(false,33,1)]:=by kernel_rfl
theorem part_int (l:List Int) (n:Int) (w:World):(part 3 (ivA (n :: l)) 0).run Try.prog w=.ok (.int .i64 n) w:=by
 simp [part,isAgg,run_underlying Try.underlying3,ivA_get]
theorem size_run {P:Program} {t:TypeId} {n:Nat} (h:(P.info? t).map (·.size)=some n) (w:World):(sizeOf t).run P w=.ok n w:=by
 cases hi:P.info? t with
 | none=>simp [hi] at h
 | some i=>
  simp [hi] at h
  simp [sizeOf,typeInfo,hi,h]
theorem part_cells (l:List Int) (h:l.length=60) (n:Int) (w:World):(part 33 (ivA (n :: l)) 1).run Try.prog w=.ok (.agg (ivA l)) w:=by
 have hs:=size_run (w:=w) (size_cells l h)
 rw [ivA_size,h] at hs
 have e:(ivA (n :: l)).extract 1 (1+60)=ivA l:=by
  rw [ivA_extract,show (n :: l).take (1+60)=n :: l from List.take_of_length_le (by rw [List.length_cons,h];decide)]
  rfl
 simp [part,isAgg,run_underlying Try.underlying33,hs,e]
theorem equal_page (d:Nat) (n m:Int) (xs ys:List Int) (hx:xs.length=60) (hy:ys.length=60) (w:World) :
  (Op.equalIn (d+3) 35 (.agg (ivA (n :: xs))) (.agg (ivA (m :: ys)))).run Try.prog w=.ok (decide (n=m) && decide (xs=ys)) w:=by
 rw [run_equalIn_struct w (d+2) 35 _ _ (by kernel_rfl) (by kernel_rfl)]
 have hf:=fields_page
 generalize (Try.prog.fieldsOf 35).toList=fs at hf⊢
 rcases fs with _ | ⟨f,_ | ⟨g,_ | ⟨x,r⟩⟩⟩
 ·simp at hf
 ·simp at hf
 ·simp only [List.map_cons,List.map_nil,List.cons.injEq,Prod.mk.injEq,beq_eq_false_iff_ne,ne_eq,and_true] at hf
  obtain ⟨⟨f1,f2,f3⟩,g1,g2,g3⟩:=hf
  simp only [Op.eqFields,ne_eq,f1,g1,not_false_eq_true,if_true,f2,f3,g2,g3,Sem.run_bind,Sem.run_ite,part_int,part_cells _ hx,part_cells _ hy,Result.andThen_ok,run_equalIn_int w (d+1) 3 .i64 .i64 _ _ Try.underlying3,equal_cells d _ _ hx hy]
  by_cases h:n=m
  ·subst h
   by_cases h2:xs=ys
   ·simp [h2]
   ·simp [h2]
  ·simp [h]
 ·simp at hf
theorem eql_page (n m:Int) (xs ys:List Int) (hx:xs.length=60) (hy:ys.length=60) (w:World) :
  (binOp .eql 35 (.agg (ivA (n :: xs))) (.agg (ivA (m :: ys)))).run Try.prog w=.ok (.bool (decide (n=m) && decide (xs=ys))) w:=by
 rw [run_eql_struct,equal_page 9997 n m xs ys hx hy]
 rfl
theorem neq_page (n m:Int) (xs ys:List Int) (hx:xs.length=60) (hy:ys.length=60) (w:World) :
  (binOp .neq 35 (.agg (ivA (n :: xs))) (.agg (ivA (m :: ys)))).run Try.prog w=.ok (.bool (!(decide (n=m) && decide (xs=ys)))) w:=by
 rw [run_neq_struct,equal_page 9997 n m xs ys hx hy]
 rfl
theorem neq_cells (xs ys:List Int) (hx:xs.length=60) (hy:ys.length=60) (w:World) :
  (binOp .neq 33 (.agg (ivA xs)) (.agg (ivA ys))).run Try.prog w=.ok (.bool (!decide (xs=ys))) w:=by
 rw [run_neq_struct,equal_cells 9998 xs ys hx hy]
 rfl
theorem guard_page:Try.prog.eqGuardType Try.prog.depth 35=false:=by kernel_rfl
theorem guard_cells:Try.prog.eqGuardType Try.prog.depth 33=false:=by kernel_rfl
theorem zero_cells (w:World):(zeroValue 33).run Try.prog w=.ok (.agg (ivA (List.replicate 60 0))) w:=by
 obtain ⟨i,hi,hz⟩:=Option.map_eq_some_iff.1 info_cells
 simp only [Prod.mk.injEq] at hz
 simp [zeroValue,typeInfo,hi,hz.1]
theorem zero_page (w:World):(zeroValue 35).run Try.prog w=.ok (.agg (ivA (List.replicate 61 0))) w:=by
 obtain ⟨i,hi,hz⟩:=Option.map_eq_some_iff.1 info_page
 simp only [Prod.mk.injEq] at hz
 simp [zeroValue,typeInfo,hi,hz.1]
section
variable {w:World} {ops:Array Oper} {rest:List Oper} {o:Oper} {a:Act} {Q:Exit→Act→World→Prop}
theorem wpList_new_page (hg:o.guard=none) (hop:o.op=.alloc 35)
  (h:∀ w' g,PB w' g 35 (List.replicate 61 0)→w.heap.size≤g→Only [] w w'→wpList Try.prog ops Q rest (a.put o.dst (.pointer (some ⟨g,0,none⟩))) w'):wpList Try.prog ops Q (o :: rest) a w:=
 wpList_alloc_row hg _ hop _ zero_page (h _ _ (PB.new _ _ _) (Nat.le_refl _) ((Only.refl [] w).alloc _))
theorem wpList_box_page (hg:o.guard=none) (x:Operand) (hop:o.op=.box 35 x) (l:List Int) (hx:a.eval x=.agg (ivA l))
  (h:∀ w' g,PB w' g 35 l→w.heap.size≤g→Only [] w w'→wpList Try.prog ops Q rest (a.put o.dst (.pointer (some ⟨g,0,none⟩))) w'):wpList Try.prog ops Q (o :: rest) a w:=by
 refine wpList_run hg (.pointer (some ⟨w.heap.size,0,none⟩)) ?_ (h (w.alloc (.cells (ivA l) 35)) _ (PB.new _ _ _) (Nat.le_refl _) ((Only.refl [] w).alloc _))
 simp [execOp,hop,hx,Instr.box,newVar,newRow,newObj,Value.cells,Result.andThen]
 rfl
theorem wpList_new_cells (hg:o.guard=none) (hop:o.op=.alloc 33)
  (h:∀ w' g,PB w' g 33 (List.replicate 60 0)→w.heap.size≤g→Only [] w w'→wpList Try.prog ops Q rest (a.put o.dst (.pointer (some ⟨g,0,none⟩))) w'):wpList Try.prog ops Q (o :: rest) a w:=
 wpList_alloc_row hg _ hop _ zero_cells (h _ _ (PB.new _ _ _) (Nat.le_refl _) ((Only.refl [] w).alloc _))
theorem wpList_load_page (hgd:o.guard=none) (x:Operand) (ho:o.op=.load 35 x) (g:Nat) (hx:a.eval x=.pointer (some ⟨g,0,none⟩)) (l:List Int) (hb:PB w g 35 l) (hl:l.length=61)
  (h:wpList Try.prog ops Q rest (a.put o.dst (.agg (ivA l))) w):wpList Try.prog ops Q (o :: rest) a w:=
 wpList_load_row hgd _ x ho g hx _ _ _ _ hb Try.underlying35 rfl (size_page l hl) h
theorem wpList_store_page (hgd:o.guard=none) (x y:Operand) (ho:o.op=.store 35 x y) (g:Nat) (m:List Int) (hx:a.eval x=.pointer (some ⟨g,0,none⟩)) (hy:a.eval y=.agg (ivA m)) (hm:m.length=61) (l:List Int) (hb:PB w g 35 l) (hl:l.length=61)
  (h:∀ w',PB w' g 35 m→Only [g] w w'→wpList Try.prog ops Q rest (a.put o.dst undef) w'):wpList Try.prog ops Q (o :: rest) a w:=
 Go.Proofs.Ytiaeagpepfmfgaa.wpList_store_row hgd _ x y ho g _ hx hy _ _ hb (size_page m hm) (by rw [ivA_size,ivA_size];omega) (ivA_one m) (h _ (hb.row m) ((Only.refl [g] w).setRow (.inl (by simp)) _))
theorem wpList_store_cells (hgd:o.guard=none) (x y:Operand) (ho:o.op=.store 33 x y) (g:Nat) (m:List Int) (hx:a.eval x=.pointer (some ⟨g,0,none⟩)) (hy:a.eval y=.agg (ivA m)) (hm:m.length=60) (l:List Int) (hb:PB w g 33 l) (hl:l.length=60)
  (h:∀ w',PB w' g 33 m→Only [g] w w'→wpList Try.prog ops Q rest (a.put o.dst undef) w'):wpList Try.prog ops Q (o :: rest) a w:=
 Go.Proofs.Ytiaeagpepfmfgaa.wpList_store_row hgd _ x y ho g _ hx hy _ _ hb (size_cells m hm) (by rw [ivA_size,ivA_size];omega) (ivA_one m) (h _ (hb.row m) ((Only.refl [g] w).setRow (.inl (by simp)) _))
theorem run_load_mid {g:Nat} {n:Int} {l:List Int} (hb:PB w g 35 (n :: l)) (hl:l.length=60):(loadVar 33 ⟨g,1,none⟩).run Try.prog w=.ok (.agg (ivA l)) w:=by
 have h1:(loadCells ⟨g,1,none⟩ (iv l).length).run Try.prog w=.ok (iv l).toArray w:=
  run_loadCells_list (P:=Try.prog) w ⟨g,1,none⟩ (iv l) (fun j v hv=>by
   have hadd:(⟨g,1,none⟩:Addr).add j=⟨g,1+j,none⟩:=by unfold Addr.add;split<;>simp_all
   rw [hadd,cell_at _ hb,ivA_get,Nat.add_comm,List.getElem?_cons_succ]
   simpa [iv] using hv)
 have hs:=size_run (w:=w) (size_cells l hl)
 rw [ivA_size] at hs
 rw [iv_length,hl] at h1
 rw [hl] at hs
 simp [loadVar,isAgg,run_underlying Try.underlying33,hs,h1,ivA]
theorem wpList_load_mid (hgd:o.guard=none) (x:Operand) (ho:o.op=.load 33 x) (g:Nat) (hx:a.eval x=.pointer (some ⟨g,1,none⟩)) (n:Int) (l:List Int) (hb:PB w g 35 (n :: l)) (hl:l.length=60)
  (h:wpList Try.prog ops Q rest (a.put o.dst (.agg (ivA l))) w):wpList Try.prog ops Q (o :: rest) a w:=by
 refine wpList_run hgd (.agg (ivA l)) ?_ h
 simp [execOp,ho,hx,Instr.loadAt,Instr.sureAddr,run_load_mid hb hl,Result.andThen]
end
theorem load_page {w:World} {g:Nat} {l:List Int} (hb:PB w g 35 l) (hl:l.length=61):(loadVar 35 ⟨g,0,none⟩).run Try.prog w=.ok (.agg (ivA l)) w:=
 run_loadVar_row w g _ _ _ _ _ hb Try.underlying35 rfl (size_page l hl)
theorem results_page {fn:Func} {p:Tmp} (h:fn.results=#[.cell p 35]) (tmps:Array Value) (w:World) (g:Nat) (l:List Int) (hp:tmps.getD p undef=.pointer (some ⟨g,0,none⟩)) (hb:PB w g 35 l) (hl:l.length=61) :
  (results fn tmps).run Try.prog w=.ok (.agg (ivA l)) w:=results_cell_row h _ _ g _ _ _ _ hp hb Try.underlying35 rfl (size_page l hl)
set_option maxRecDepth 100000 in
theorem isCell_any (k:Int) (w:World) (h0:-9223372036854775808≤k) (h1:k≤9223372036854775807) :
  Calls Try.prog 70 #[.int .i64 k] w fun e w'=>e=.returned (.bool (decide (0≤k∧k < 60)))∧w=w':=by
 by_cases hk:0≤k
 ·go_enter Try.func70,Try.ntmps70
  go_wp2
  go_ret
  exact ⟨ret_bool (by simp [hk]),rfl⟩
 ·go_enter Try.func70,Try.ntmps70
  go_wp2
  go_ret
  exact ⟨ret_bool (by simp;omega),rfl⟩
set_option maxRecDepth 100000 in
theorem Get_yes (n:Int) (c:List Int) (k:Nat) (z:Int) (w:World) (hk:k < 60) (hz:c[k]?=some z) :
  Calls Try.prog 48 #[.agg (ivA (n :: c)),.int .i64 (k:Int)] w fun e w'=>e=.returned (.tuple #[.int .i64 z,.bool true])∧Only [] w w':=by
 have hb:=PB.new w 35 (n :: c)
 have ho:Only [] w (w.alloc (.cells (ivA (n :: c)) 35)):=(Only.refl [] w).alloc _
 have hcell:(w.alloc (.cells (ivA (n :: c)) 35)).cell? ⟨w.heap.size,1+k,none⟩=some (.int .i64 z):=hb.cell (by rw [Nat.add_comm,List.getElem?_cons_succ];exact hz)
 have HO:=Lib.hid ho
 clear hb ho hz
 go_enter Try.func48,Try.ntmps48
 go_wp2_with fail
 refine (isCell_any k _ (by omega) (by omega)).mono ?_
 rintro e w1 ⟨rfl,rfl⟩
 have hd:decide (0≤(k:Int)∧(k:Int) < 60)=true:=by simp;omega
 rw [hd]
 clear hd
 go_wp2
 go_ret2
 exact ⟨rfl,HO.out⟩
set_option maxRecDepth 100000 in
theorem Get_no (l:List Int) (k:Int) (w:World) (h0:-9223372036854775808≤k) (h1:k≤9223372036854775807) (hk:¬ (0≤k∧k < 60)) :
  Calls Try.prog 48 #[.agg (ivA l),.int .i64 k] w fun e w'=>e=.returned (.tuple #[.int .i64 0,.bool false])∧Only [] w w':=by
 have ho:Only [] w (w.alloc (.cells (ivA l) 35)):=(Only.refl [] w).alloc _
 have HO:=Lib.hid ho
 clear ho
 go_enter Try.func48,Try.ntmps48
 go_wp2_with fail
 refine (isCell_any k _ h0 h1).mono ?_
 rintro e w1 ⟨rfl,rfl⟩
 have hd:decide (0≤k∧k < 60)=false:=by simp only [decide_eq_false_iff_not];exact hk
 rw [hd]
 clear hd hk
 go_wp2
 go_ret2
 exact ⟨rfl,HO.out⟩
theorem built_none:Try.prog.built 35 []=some (ivA (0 :: blankP)):=by kernel_rfl
theorem built_num (n:Int):Try.prog.built 35 [(0,.int .i64 n)]=some (ivA (n :: blankP)):=by kernel_rfl
section
variable {w:World} {ops:Array Oper} {rest:List Oper} {o:Oper} {a:Act} {Q:Exit→Act→World→Prop}
theorem wpList_built (hg:o.guard=none) (ps:List (Nat×Operand)) (ho:o.op=.build 35 ps.toArray) (l:List Int) (hl:Try.prog.built 35 (ps.map fun x=>(x.1,a.eval x.2))=some (ivA l))
  (h:wpList Try.prog ops Q rest (a.put o.dst (.agg (ivA l))) w):wpList Try.prog ops Q (o :: rest) a w:=by
 have e:(ps.toArray.map fun (i,x)=>(i,a.eval x)).toList=ps.map fun x=>(x.1,a.eval x.2):=by simp
 refine wpList_build hg _ ps.toArray ho (by rw [e,hl];rfl) ?_
 rw [e,hl]
 exact h
end
def fil (l:List Int) (i:Nat):Int:=l.getD (i % l.length) 0
def filC (l:List Int) (k:Nat):List Int:=(List.range 60).map fun i=>if i < k then fil l i else 0
theorem filC_length (l:List Int) (k:Nat):(filC l k).length=60:=by simp [filC]
theorem filC_set (l:List Int) (k:Nat) (hk:k < 60):(filC l k).set k (fil l k)=filC l (k+1):=by
 apply List.ext_getElem (by simp [filC])
 intro i h1 h2
 simp only [filC,List.getElem_set,List.getElem_map,List.getElem_range]
 by_cases hi:k=i
 ·subst hi
  simp
 ·simp only [if_neg hi]
  by_cases h:i < k
  ·rw [if_pos h,if_pos (by omega)]
  ·rw [if_neg h,if_neg (by omega)]
theorem fil_nil (i:Nat):fil [] i=0:=by simp [fil]
theorem filC_nil (k:Nat):filC [] k=blankP:=by
 apply List.ext_getElem (by simp [filC,blankP])
 intro i h1 h2
 simp only [filC,blankP,List.getElem_map,List.getElem_range,fil_nil,ite_self,List.getElem_replicate]
theorem filC_zero (l:List Int):filC l 0=blankP:=by
 apply List.ext_getElem (by simp [filC,blankP])
 intro i h1 h2
 simp only [filC,blankP,List.getElem_map,List.getElem_range,Nat.not_lt_zero,if_false,List.getElem_replicate]
theorem filC_in {l:List Int} (h:∀ z∈l,In64 z) (k:Nat):∀ z∈filC l k,In64 z:=by
 intro z hz
 simp only [filC,List.mem_map] at hz
 obtain ⟨i,-,rfl⟩:=hz
 split
 ·unfold fil
  by_cases hi:i % l.length < l.length
  ·rw [List.getD_eq_getElem?_getD,List.getElem?_eq_getElem hi]
   exact h _ (List.getElem_mem hi)
  ·rw [List.getD_eq_getElem?_getD,List.getElem?_eq_none (by omega)]
   exact ⟨by decide,by decide⟩
 ·exact ⟨by decide,by decide⟩
def n64 (z:Int):Prop:=-9223372036854775808≤z∧z≤9223372036854775807
theorem n64_wrap (z:Int):n64 (wrap64 z):=by unfold n64 wrap64;omega
theorem n64_zero:n64 0:=by unfold n64;omega
theorem n64_one:n64 1:=by unfold n64;omega
theorem n64_wf {z:Int} (h:n64 z):(Lit.int .i64 z).wf=true:=by
 unfold n64 at h
 simp only [Lit.wf,Bool.and_eq_true,decide_eq_true_eq]
 exact h
def tr (p:Prop) [Decidable p]:Int:=if p then 1 else 0
def opV (nm:Sec) (a b:Int):Int:=
 if nm=[43] then wrap64 (a+b) else if nm=[45] then wrap64 (a - b) else if nm=[42] then wrap64 (a*b)
 else if nm=[47] then (if b=0 then 0 else wrap64 (a.tdiv b)) else if nm=[37] then (if b=0 then 0 else wrap64 (a.tmod b))
 else if nm=[60] then tr (a < b) else if nm=[60,61] then tr (a≤b) else if nm=[62] then tr (b < a) else if nm=[62,61] then tr (b≤a)
 else if nm=[61,61] then tr (a=b) else if nm=[33,61] then tr (a≠b)
 else if nm=[38,38] then tr (a≠0∧b≠0) else if nm=[124,124] then tr (a≠0∨b≠0) else 0
theorem wrap_tmod (a:Int) {b:Int} (hb:n64 b) (h:b≠0):wrap64 (a.tmod b)=a.tmod b:=by
 have h1:(a.tmod b).natAbs < b.natAbs:=by rw [Int.natAbs_tmod];exact Nat.mod_lt _ (by omega)
 unfold n64 at hb
 unfold wrap64
 omega
end Go.Proofs.Ytiaeagpepfmfgaa
namespace Go.Proofs.Ytiaeagpepfmfgaa
open Go.RowKit Go.Maps
set_option linter.unusedSimpArgs false
set_option linter.unusedVariables false
mutual
def gE:E→Prop | .mk _ n _ xs _=>n64 n∧gL xs
def gL:List E→Prop | []=>True | x :: xs=>gE x∧gL xs
end
mutual
def gS:St→Prop | .mk _ nm xs _ bd els _=>nm∉kws∧gL xs∧gB bd∧gB els
def gB:List St→Prop | []=>True | x :: xs=>gS x∧gB xs
end
theorem gL_nil:gL []:=by unfold gL;trivial
theorem gL_one {e:E} (h:gE e):gL [e]:=by unfold gL;exact ⟨h,gL_nil⟩
theorem gL_two {e f:E} (h:gE e) (h2:gE f):gL [e,f]:=by unfold gL;exact ⟨h,gL_one h2⟩
theorem gB_nil:gB []:=by unfold gB;trivial
theorem gE_mk {k n:Int} {nm:Sec} {xs:List E} {p:Int} (h1:n64 n) (h2:gL xs):gE (.mk k n nm xs p):=by unfold gE;exact ⟨h1,h2⟩
theorem gS_mk {k:Int} {nm:Sec} {xs:List E} {n:Int} {bd els:List St} {p:Int} (h1:nm∉kws) (h2:gL xs) (h3:gB bd) (h4:gB els):gS (.mk k nm xs n bd els p):=by unfold gS;exact ⟨h1,h2,h3,h4⟩
theorem numW_n64 (l:Sec):n64 (numW l):=by
 have h:∀ (l:Sec) (acc:Int),n64 acc→n64 (l.foldl (fun n c=>wrap64 (wrap64 (10*n)+((c.toNat:Int) - 48) % 256)) acc):=by
  intro l
  induction l with
  | nil=>intro acc h;exact h
  | cons c l ih=>intro acc _;exact ih _ (n64_wrap _)
 exact h l 0 n64_zero
theorem kws_nil:([]:Sec)∉kws:=by decide
section
variable {ts:List Tok}
theorem good_expr:∀ f:Nat,
  (∀ i least dp e a,exprR ts f i least dp=.ok (e,a)→gE e)∧(∀ l i least most dp e a,gE l→loopR ts f l i least most dp=.ok (e,a)→gE e)∧
  (∀ i dp e a,smallR ts f i dp=.ok (e,a)→gE e)∧(∀ i dp b c e a,aroundR ts f i dp b c=.ok (e,a)→gE e):=by
 intro f
 induction f with
 | zero=>
  refine ⟨fun i _ _ e a h=>?_,fun _ i _ _ _ e a _ h=>?_,fun i _ e a h=>?_,fun i _ _ _ e a h=>?_⟩
  ·unfold exprR at h;cases h
  ·unfold loopR at h;cases h
  ·unfold smallR at h;cases h
  ·unfold aroundR at h;cases h
 | succ f ih=>
  obtain ⟨ih1,ih2,ih3,ih4⟩:=ih
  refine ⟨fun i least dp e a h=>?_,fun l i least most dp e a hl h=>?_,fun i dp e a h=>?_,fun i dp b c e a h=>?_⟩
  ·unfold exprR at h
   split at h
   ·cases h
   ·rename_i l b hs
    exact ih2 _ _ _ _ _ _ _ (ih3 _ _ _ _ hs) h
  ·unfold loopR at h
   split at h
   ·rename_i hc
    split at h
    ·cases h
    ·rename_i r b hs
     exact ih2 _ _ _ _ _ _ _ (gE_mk n64_zero (gL_two hl (ih1 _ _ _ _ _ hs))) h
   ·cases h
    exact hl
  ·unfold smallR at h
   split at h
   ·split at h
    ·cases h
    ·split at h
     ·cases h
     ·rename_i e' b hs
      cases h
      exact gE_mk n64_zero (gL_one (ih3 _ _ _ _ hs))
   ·split at h
    ·split at h
     ·cases h
     ·rename_i e' b hs
      cases h
      exact gE_mk n64_zero (gL_one (ih4 _ _ _ _ _ _ hs))
    ·split at h
     ·exact ih4 _ _ _ _ _ _ h
     ·split at h
      ·cases h
       exact gE_mk (numW_n64 _) gL_nil
      ·split at h
       ·cases h
        exact gE_mk n64_zero gL_nil
       ·split at h
        ·cases h
        ·cases h
         exact gE_mk n64_zero gL_nil
  ·unfold aroundR at h
   split at h
   ·cases h
   ·split at h
    ·split at h
     ·cases h
     ·rename_i e' b' hs
      split at h
      ·cases h
      ·cases h
       exact ih1 _ _ _ _ _ hs
    ·cases h
theorem good_exprT {i dp a:Nat} {e:E} (h:exprT ts i dp=.ok (e,a)):gE e:=(good_expr _).1 _ _ _ _ _ h
theorem good_aroundT {i dp a:Nat} {e:E} (h:aroundT ts i dp=.ok (e,a)):gE e:=(good_expr _).2.2.2 _ _ _ _ _ _ h
theorem wordT_kws {i a:Nat} {s:Sec} (h:wordT ts i=.ok (s,a)):s∉kws:=by
 unfold wordT at h
 split at h<;>cases h
 rename_i hk
 exact hk.2
theorem good_cell {i dp a:Nat} {s:St} (h:cellR ts i dp=.ok (s,a)):gS s:=by
 unfold cellR at h
 split at h
 ·cases h
 ·rename_i l b hl
  have g1:=good_aroundT hl
  split at h
  ·split at h
   ·cases h
   ·rename_i r c hr
    have g2:=good_exprT hr
    split at h<;>cases h
    exact gS_mk kws_nil (gL_two g1 g2) gB_nil gB_nil
  ·split at h
   ·split at h
    ·cases h
    ·rename_i r c hr
     have g2:=good_aroundT hr
     split at h<;>cases h
     exact gS_mk kws_nil (gL_two g1 g2) gB_nil gB_nil
   ·cases h
theorem good_let {i dp a:Nat} {s:St} (h:letR ts i dp=.ok (s,a)):gS s:=by
 unfold letR at h
 split at h
 ·cases h
 ·rename_i nm b hw
  split at h
  ·cases h
  ·split at h
   ·cases h
   ·rename_i e c he
    split at h<;>cases h
    exact gS_mk (wordT_kws hw) (gL_one (good_exprT he)) gB_nil gB_nil
theorem good_for {i a:Nat} {s:Sec} {n:Int} (h:forR ts i=.ok ((s,n),a)):s∉kws:=by
 unfold forR at h
 split at h
 ·cases h
 ·rename_i nm b hw
  split at h
  ·cases h
  ·split at h
   ·cases h
   ·split at h
    ·cases h
    ·split at h
     ·cases h
     ·cases h
      exact wordT_kws hw
theorem good_stmt:∀ f:Nat,(∀ i dp s a,stmtR ts f i dp=.ok (s,a)→gS s)∧(∀ i dp l a,blockR ts f i dp=.ok (l,a)→gB l)∧(∀ i dp l a,stmtsR ts f i dp=.ok (l,a)→gB l):=by
 intro f
 induction f with
 | zero=>
  refine ⟨fun i _ e a h=>?_,fun i _ e a h=>?_,fun i _ e a h=>?_⟩
  ·unfold stmtR at h;cases h
  ·unfold blockR at h;cases h
  ·unfold stmtsR at h;cases h
 | succ f ih=>
  obtain ⟨ih1,ih2,ih3⟩:=ih
  refine ⟨fun i dp s a h=>?_,fun i dp l a h=>?_,fun i dp l a h=>?_⟩
  ·unfold stmtR at h
   split at h
   ·exact good_cell h
   ·split at h
    ·exact good_let h
    ·split at h
     ·split at h
      ·cases h
      ·rename_i e b0 he
       split at h
       ·cases h
       ·rename_i bd c hb
        split at h
        ·split at h
         ·cases h
         ·rename_i els d hd
          cases h
          exact gS_mk kws_nil (gL_one (good_exprT he)) (ih2 _ _ _ _ hb) (ih2 _ _ _ _ hd)
        ·cases h
         exact gS_mk kws_nil (gL_one (good_exprT he)) (ih2 _ _ _ _ hb) gB_nil
     ·split at h
      ·split at h
       ·cases h
       ·rename_i x c hf
        obtain ⟨s0,n0⟩:=x
        split at h
        ·cases h
        ·rename_i bd c hb
         cases h
         exact gS_mk (good_for hf) gL_nil (ih2 _ _ _ _ hb) gB_nil
      ·cases h
  ·unfold blockR at h
   split at h
   ·cases h
   ·split at h
    ·split at h
     ·cases h
     ·rename_i l' b hs
      split at h<;>cases h
      exact ih3 _ _ _ _ hs
    ·cases h
  ·unfold stmtsR at h
   split at h
   ·cases h
    exact gB_nil
   ·split at h
    ·cases h
    ·rename_i s b hs
     split at h
     ·cases h
     ·rename_i l' c hl
      cases h
      unfold gB
      exact ⟨ih1 _ _ _ _ hs,ih3 _ _ _ _ hl⟩
theorem good_body:∀ f i l a,bodyR ts f i=.ok (l,a)→gB l:=by
 intro f
 induction f with
 | zero=>intro i l a h;unfold bodyR at h;cases h
 | succ f ih=>
  intro i l a h
  unfold bodyR at h
  split at h
  ·cases h
   exact gB_nil
  ·split at h
   ·cases h
   ·rename_i s b hs
    split at h
    ·cases h
    ·rename_i l' d hl
     cases h
     unfold gB
     exact ⟨(good_stmt _).1 _ _ _ _ hs,ih _ _ _ hl⟩
theorem good_params:∀ f i l a,paramsR ts f i=.ok (l,a)→∀ nm∈l,nm∉kws:=by
 intro f
 induction f with
 | zero=>intro i l a h;unfold paramsR at h;cases h
 | succ f ih=>
  intro i l a h
  unfold paramsR at h
  split at h
  ·cases h
  ·rename_i s b hw
   split at h
   ·split at h
    ·cases h
    ·rename_i l' c hl
     cases h
     intro nm hm
     rcases List.mem_cons.1 hm with rfl | hm
     ·exact wordT_kws hw
     ·exact ih _ _ _ hl nm hm
   ·cases h
    intro nm hm
    rw [List.mem_singleton.1 hm]
    exact wordT_kws hw
theorem good_needs:∀ f i l a,needsR ts f i=.ok (l,a)→gL l:=by
 intro f
 induction f with
 | zero=>intro i l a h;unfold needsR at h;cases h
 | succ f ih=>
  intro i l a h
  unfold needsR at h
  split at h
  ·split at h
   ·cases h
   ·rename_i e b he
    split at h
    ·cases h
    ·split at h
     ·cases h
     ·rename_i l' d hl
      cases h
      unfold gL
      exact ⟨good_exprT he,ih _ _ _ hl⟩
  ·cases h
   exact gL_nil
theorem good_give {i a:Nat} {l:List E} (h:giveR ts i=.ok (l,a)):gL l:=by
 unfold giveR at h
 split at h
 ·split at h
  ·cases h
  ·rename_i e b he
   split at h
   ·cases h
   ·cases h
    exact gL_one (good_exprT he)
 ·cases h
  exact gL_nil
structure Good (d:Df):Prop where
 params:∀ nm∈d.params,nm∉kws
 needs:gL d.needs
 body:gB d.body
 give:gL d.give
theorem good_def {d:Df} {a:Nat} (h:defR ts=.ok (d,a)):Good d:=by
 unfold defR at h
 split at h
 ·cases h
 ·rename_i hd a1 hh
  split at h
  ·cases h
  ·rename_i ns a2 h2
   split at h
   ·cases h
   ·rename_i b a3 h3
    split at h
    ·cases h
    ·rename_i g a4 h4
     split at h
     ·cases h
     ·cases h
      refine ⟨?_,good_needs _ _ _ _ h2,good_body _ _ _ _ h3,good_give h4⟩
      unfold headR at hh
      split at hh
      ·cases hh
      ·split at hh
       ·cases hh
       ·split at hh
        ·cases hh
        ·split at hh
         ·cases hh
         ·rename_i ps c hps
          split at hh
          ·cases hh
          ·split at hh
           ·cases hh
           ·cases hh
            unfold paramsT at hps
            split at hps
            ·cases hps
             exact fun nm hm=>absurd hm (by simp)
            ·exact good_params _ _ _ _ hps
end
theorem parse_good {l:Sec} {d:Df} (h:parseS l=.ok d):Good d:=by
 unfold parseS at h
 split at h
 ·cases h
 ·split at h
  ·cases h
  ·split at h
   ·cases h
   ·rename_i d' hp
    cases h
    unfold parseR at hp
    split at hp
    ·cases hp
    ·rename_i d2 a hd
     split at hp
     ·cases hp
      exact good_def hd
     ·cases hp
end Go.Proofs.Ytiaeagpepfmfgaa
namespace Go.Proofs.Ytiaeagpepfmfgaa
open Go.RowKit Go.Maps
set_option linter.unusedSimpArgs false
set_option linter.unusedVariables false
abbrev Nms:=Sec→Option Int
structure PS where
 c:List Int
 m:Nms
def getC (c:List Int) (i:Int):Int:=if 0≤i∧i < 60 then c.getD i.toNat 0 else 0
def nmV (m:Nms) (nm:Sec):Int:=if nm=[116,114,117,101] then 1 else if nm=[102,97,108,115,101] then 0 else (m nm).getD 0
def exO (c:List Int) (m:Nms) (k n:Int) (nm:Sec) (vs:List Int):Int:=
 if k=2 then nmV m nm else if k=3 then getC c (vs.getD 0 0) else if k=4 then tr (vs.getD 0 0=0) else if k=5 then wrap64 (-(vs.getD 0 0))
 else if k=6 then opV nm (vs.getD 0 0) (vs.getD 1 0) else n
mutual
def exV (c:List Int) (m:Nms):E→Int | .mk k n nm xs _=>exO c m k n nm (exVs c m xs)
def exVs (c:List Int) (m:Nms):List E→List Int | []=>[] | x :: xs=>exV c m x :: exVs c m xs
end
abbrev inC (i:Int):Prop:=0≤i∧i < 60
def chgC (k:Int) (c:List Int) (i v:Int):List Int:=
 if inC i then (if k=2 then c.set i.toNat v else if k=3 then c.set i.toNat (wrap64 (getC c i+v)) else if k=4 then c.set i.toNat (wrap64 (getC c i - v)) else c) else c
def swpC (c:List Int) (i j:Int):List Int:=if inC i∧inC j then (c.set i.toNat (getC c j)).set j.toNat (getC c i) else c
def loopA {α:Type} (f:Nat→α→α):Nat→α→α | 0,s=>s | j+1,s=>f j (loopA f j s)
mutual
def pgS:St→PS→PS
 | .mk k nm xs n bd els _,s=>
  if k=1 then ⟨s.c,nput s.m nm ((exVs s.c s.m xs).getD 0 0)⟩
  else if k=6 then (if (exVs s.c s.m xs).getD 0 0≠0 then pgB bd s else pgB els s)
  else if k=7 then loopA (fun i s=>pgB bd ⟨s.c,nput s.m nm (i:Int)⟩) n.toNat s
  else if k=8 then loopA (fun i s=>pgB bd ⟨s.c,nput s.m nm (n - 1 - (i:Int))⟩) n.toNat s
  else if k=5 then ⟨swpC s.c ((exVs s.c s.m xs).getD 0 0) ((exVs s.c s.m xs).getD 1 0),s.m⟩
  else ⟨chgC k s.c ((exVs s.c s.m xs).getD 0 0) ((exVs s.c s.m xs).getD 1 0),s.m⟩
def pgB:List St→PS→PS
 | [],s=>s
 | x :: xs,s=>pgB xs (pgS x s)
end
abbrev VE:=List (Sec×Int)
def lastE:VE→Nms
 | [],_=>none
 | x :: l,z=>match lastE l z with | some v=>some v | none=>if z=x.1 then some x.2 else none
theorem lastE_snoc:∀ (l:VE) (k:Sec) (v:Int),lastE (l++[(k,v)])=nput (lastE l) k v
 | [],k,v=>by
  funext z
  show (match lastE [] z with | some v=>some v | none=>if z=k then some v else none)=_
  rfl
 | x :: l,k,v=>by
  funext z
  have ih:=congrFun (lastE_snoc l k v) z
  show (match lastE (l++[(k,v)]) z with | some v=>some v | none=>if z=x.1 then some x.2 else none)=_
  rw [ih]
  unfold nput
  by_cases h:z=k
  ·rw [if_pos h,if_pos h]
  ·rw [if_neg h,if_neg h]
   rfl
mutual
def dcS:St→List Int×VE→List Int×VE
 | .mk k nm xs n bd els _,s=>
  if k=1 then (s.1,s.2++[(nm,(exVs s.1 (lastE s.2) xs).getD 0 0)])
  else if k=6 then (if (exVs s.1 (lastE s.2) xs).getD 0 0≠0 then (dcB bd s).1 else (dcB els s).1,s.2)
  else if k=7 then (loopA (fun i c=>(dcB bd (c,s.2++[(nm,(i:Int))])).1) n.toNat s.1,s.2)
  else if k=8 then (loopA (fun i c=>(dcB bd (c,s.2++[(nm,n - 1 - (i:Int))])).1) n.toNat s.1,s.2)
  else if k=5 then (swpC s.1 ((exVs s.1 (lastE s.2) xs).getD 0 0) ((exVs s.1 (lastE s.2) xs).getD 1 0),s.2)
  else (chgC k s.1 ((exVs s.1 (lastE s.2) xs).getD 0 0) ((exVs s.1 (lastE s.2) xs).getD 1 0),s.2)
def dcB:List St→List Int×VE→List Int×VE
 | [],s=>s
 | x :: xs,s=>dcB xs (dcS x s)
end
structure CW (c:List Int):Prop where
 len:c.length=60
 in_:∀ z∈c,n64 z
def NW (m:Nms):Prop:=∀ z v,m z=some v→n64 v
theorem CW.get {c:List Int} (h:CW c) (i:Int):n64 (getC c i):=by
 unfold getC
 split
 ·rename_i hi
  have hl:i.toNat < c.length:=by rw [h.len];omega
  rw [List.getD_eq_getElem?_getD,List.getElem?_eq_getElem hl]
  exact h.in_ _ (List.getElem_mem hl)
 ·exact n64_zero
theorem CW.set {c:List Int} (h:CW c) (i:Nat) {v:Int} (hv:n64 v):CW (c.set i v):=
 ⟨by rw [List.length_set];exact h.len,fun z hz=>by
  rcases List.mem_or_eq_of_mem_set hz with hz | rfl
  ·exact h.in_ z hz
  ·exact hv⟩
theorem CW.chg {c:List Int} (h:CW c) (k i:Int) {v:Int} (hv:n64 v):CW (chgC k c i v):=by
 unfold chgC
 split
 ·split
  ·exact h.set _ hv
  ·split
   ·exact h.set _ (n64_wrap _)
   ·split
    ·exact h.set _ (n64_wrap _)
    ·exact h
 ·exact h
theorem CW.swp {c:List Int} (h:CW c) (i j:Int):CW (swpC c i j):=by
 unfold swpC
 split
 ·exact (h.set _ (h.get _)).set _ (h.get _)
 ·exact h
theorem NW.put {m:Nms} (h:NW m) (k:Sec) {v:Int} (hv:n64 v):NW (nput m k v):=fun z u hz=>by
 unfold nput at hz
 split at hz
 ·cases hz;exact hv
 ·exact h z u hz
theorem tr_n64 (p:Prop) [Decidable p]:n64 (tr p):=by
 unfold tr
 split
 ·exact n64_one
 ·exact n64_zero
theorem n64_ite {p:Prop} [Decidable p] {a b:Int} (h1:n64 a) (h2:n64 b):n64 (if p then a else b):=by
 split
 ·exact h1
 ·exact h2
theorem opV_n64 (nm:Sec) (a b:Int):n64 (opV nm a b):=by
 unfold opV
 repeat' (first | exact n64_wrap _ | exact tr_n64 _ | exact n64_zero | refine n64_ite ?_ ?_)
theorem nmV_n64 {m:Nms} (h:NW m) (nm:Sec):n64 (nmV m nm):=by
 unfold nmV
 split
 ·exact n64_one
 ·split
  ·exact n64_zero
  ·cases hm:m nm with
   | none=>exact n64_zero
   | some v=>exact h nm v hm
theorem exO_n64 {c:List Int} {m:Nms} (hc:CW c) (hm:NW m) (k:Int) {n:Int} (hn:n64 n) (nm:Sec) (vs:List Int):n64 (exO c m k n nm vs):=by
 unfold exO
 split
 ·exact nmV_n64 hm _
 ·split
  ·exact hc.get _
  ·split
   ·exact tr_n64 _
   ·split
    ·exact n64_wrap _
    ·split
     ·exact opV_n64 _ _ _
     ·exact hn
theorem exV_n64 {c:List Int} {m:Nms} (hc:CW c) (hm:NW m):∀ e:E,gE e→n64 (exV c m e)
 | .mk k n nm xs p,h=>by
  unfold gE at h
  unfold exV
  exact exO_n64 hc hm k h.1 nm _
theorem exVs_n64 {c:List Int} {m:Nms} (hc:CW c) (hm:NW m) (j:Nat):∀ xs:List E,gL xs→n64 ((exVs c m xs).getD j 0):=by
 induction j with
 | zero=>
  intro xs h
  cases xs with
  | nil=>unfold exVs;exact n64_zero
  | cons x xs=>unfold gL at h;unfold exVs;exact exV_n64 hc hm x h.1
 | succ j ih=>
  intro xs h
  cases xs with
  | nil=>unfold exVs;exact n64_zero
  | cons x xs=>
   unfold gL at h
   unfold exVs
   rw [List.getD_cons_succ]
   exact ih xs h.2
theorem loopA_inv {α:Type} {f:Nat→α→α} (P:α→Prop) (n:Nat) (hf:∀ i s,i < n→P s→P (f i s)):∀ j,j≤n→∀ s,P s→P (loopA f j s)
 | 0,_,s,h=>h
 | j+1,hj,s,h=>hf j _ (by omega) (loopA_inv P n hf j (by omega) s h)
def SW (s:PS):Prop:=CW s.c∧NW s.m
mutual
theorem pgS_w:∀ (x:St) (s:PS),wS x→gS x→SW s→fewS x→SW (pgS x s)
 | .mk k nm xs n bd els p,s,hw,hg,h,hn=>by
  unfold wS at hw
  unfold gS at hg
  unfold fewS at hn
  obtain ⟨-,-,hx,hb,he⟩:=hw
  obtain ⟨-,gx,gb,ge⟩:=hg
  unfold pgS
  split
  ·exact ⟨h.1,h.2.put _ (exVs_n64 h.1 h.2 0 xs gx)⟩
  ·split
   ·split
    ·exact pgB_w bd s hb gb h hn.2.1
    ·exact pgB_w els s he ge h hn.2.2
   ·split
    ·rename_i hk
     refine loopA_inv SW n.toNat (fun i s hi hs=>pgB_w bd ⟨s.c,nput s.m nm (i:Int)⟩ hb gb ⟨hs.1,hs.2.put _ ?_⟩ hn.2.1) _ (Nat.le_refl _) s h
     have:=hn.1 (.inl hk)
     unfold n64
     omega
    ·split
     ·rename_i hk
      refine loopA_inv SW n.toNat (fun i s hi hs=>pgB_w bd ⟨s.c,nput s.m nm (n - 1 - (i:Int))⟩ hb gb ⟨hs.1,hs.2.put _ ?_⟩ hn.2.1) _ (Nat.le_refl _) s h
      have:=hn.1 (.inr hk)
      unfold n64
      omega
     ·split
      ·exact ⟨h.1.swp _ _,h.2⟩
      ·exact ⟨h.1.chg _ _ (exVs_n64 h.1 h.2 1 xs gx),h.2⟩
theorem pgB_w:∀ (xs:List St) (s:PS),wB xs→gB xs→SW s→fewB xs→SW (pgB xs s)
 | [],s,_,_,h,_=>by unfold pgB;exact h
 | x :: xs,s,hw,hg,h,hn=>by
  unfold wB at hw
  unfold gB at hg
  unfold fewB at hn
  unfold pgB
  exact pgB_w xs _ hw.2 hg.2 (pgS_w x s hw.1 hg.1 h hn.1) hn.2
end
end Go.Proofs.Ytiaeagpepfmfgaa
namespace Go.Proofs.Ytiaeagpepfmfgaa
open Go.RowKit Go.Maps
set_option linter.unusedSimpArgs false
set_option linter.unusedVariables false
theorem nput_ne {m:Nms} {nm z:Sec} {v:Int} (h:z≠nm):nput m nm v z=m z:=by
 unfold nput
 rw [if_neg h]
theorem fail_code0 {r:RS} {c p:Int} (h:(r.fail c p).code=0):r.code=0:=by
 unfold RS.fail at h
 split at h
 ·assumption
 ·exact h
theorem fail_ne {r:RS} {c p:Int} (hc:c≠0):(r.fail c p).code≠0:=by
 unfold RS.fail
 split
 ·exact hc
 ·assumption
theorem code_of_bad {r r':RS} (h:∀ x,r.bad x→r'.bad x) (h0:r'.code=0):r.code=0:=by
 apply Classical.byContradiction
 intro hc
 have:=h (r.code,r.at_) ⟨rfl,rfl,hc⟩
 exact hc (this.1.symm.trans h0)
theorem args_code {xs:List E} {r:RS} {k:Int} {nm:Sec} {env:Env} {ts:List Int} (h:(argsR r k nm xs env ts).code=0):r.code=0:=code_of_bad (fun x hx=>RS.bad.args xs r x k nm env ts hx) h
theorem fail_decl (r:RS) (c p:Int):(r.fail c p).decl=r.decl:=by unfold RS.fail;split<;>rfl
theorem type_decl (r:RS) (k:Int) (nm:Sec) (p:Int) (env:Env):(typeR r k nm p env).2.decl=r.decl:=by
 unfold typeR
 repeat' split
 all_goals first | rfl | exact fail_decl _ _ _
mutual
theorem kindR_decl:∀ (e:E) (r:RS) (env:Env),(kindR r e env).2.decl=r.decl
 | .mk k n nm xs p,r,env=>by
  unfold kindR
  rw [type_decl,argsR_decl]
theorem argsR_decl:∀ (xs:List E) (r:RS) (k:Int) (nm:Sec) (env:Env) (ts:List Int),(argsR r k nm xs env ts).decl=r.decl
 | [],r,k,nm,env,ts=>by unfold argsR;rfl
 | e :: es,r,k,nm,env,ts=>by
  unfold argsR
  rw [argsR_decl]
  split
  ·rw [fail_decl,kindR_decl]
  ·rw [kindR_decl]
end
theorem needR_decl (r:RS) (e:E) (want:Int) (env:Env):(needR r e want env).decl=r.decl:=by
 unfold needR
 split
 ·rw [fail_decl,kindR_decl]
 ·rw [kindR_decl]
def SameN (env:Env) (m m':Nms):Prop:=∀ z,(lookE env z).isSome=true→m z=m' z
mutual
theorem kind_same (c:List Int) {m m':Nms} {env:Env} (hm:SameN env m m'):∀ (e:E) (r:RS),(kindR r e env).2.code=0→exV c m e=exV c m' e
 | .mk k n nm xs p,r,h=>by
  unfold kindR at h
  have ha:(argsR r k nm xs env []).code=0:=code_of_bad (fun x hx=>hx.type k nm p env) h
  unfold exV
  rw [args_same c hm xs r k nm [] ha]
  unfold exO
  by_cases hk:k=2
  ·rw [if_pos hk,if_pos hk]
   unfold nmV
   by_cases h1:nm=[116,114,117,101]
   ·rw [if_pos h1,if_pos h1]
   ·rw [if_neg h1,if_neg h1]
    by_cases h2:nm=[102,97,108,115,101]
    ·rw [if_pos h2,if_pos h2]
    ·rw [if_neg h2,if_neg h2]
     unfold typeR at h
     rw [if_pos hk,if_neg (fun e=>e.elim h1 h2)] at h
     cases hl:lookE env nm with
     | none=>rw [hl] at h;exact absurd h (fail_ne (by decide))
     | some t=>rw [hm nm (by rw [hl];rfl)]
  ·rw [if_neg hk,if_neg hk]
theorem args_same (c:List Int) {m m':Nms} {env:Env} (hm:SameN env m m'):∀ (xs:List E) (r:RS) (k:Int) (nm:Sec) (ts:List Int),(argsR r k nm xs env ts).code=0→exVs c m xs=exVs c m' xs
 | [],r,k,nm,ts,h=>by unfold exVs;rfl
 | e :: es,r,k,nm,ts,h=>by
  unfold argsR at h
  have h1:=args_code h
  have h2:(kindR r e env).2.code=0:=by
   split at h1
   ·exact fail_code0 h1
   ·exact h1
  unfold exVs
  rw [kind_same c hm e r h2,args_same c hm es _ k nm _ h]
end
theorem need_code {r:RS} {e:E} {want:Int} {env:Env} (h:(needR r e want env).code=0):(kindR r e env).2.code=0∧r.code=0:=by
 have h1:(kindR r e env).2.code=0:=by
  unfold needR at h
  split at h
  ·exact fail_code0 h
  ·exact h
 exact ⟨h1,code_of_bad (fun x hx=>RS.bad.kind e r x env hx) h1⟩
theorem declare_code {r:RS} {nm:Sec} {p:Int} (h:(r.declare nm p).code=0):r.code=0∧nm∉r.decl∧(r.declare nm p).decl=r.decl++[nm]:=by
 unfold RS.declare at h⊢
 split at h
 ·exact absurd h (fail_ne (by decide))
 ·rename_i h1
  split at h
  ·exact absurd h (fail_ne (by decide))
  ·rename_i h2
   rw [if_neg h1,if_neg h2]
   exact ⟨h,h1,rfl⟩
def Know (r:RS) (env:Env):Prop:=∀ z,(lookE env z).isSome=true→z∈r.decl
theorem lookE_snoc {env:Env} {nm:Sec} {t:Int} {z:Sec} (h:(lookE (env++[(nm,t)]) z).isSome=true):(lookE env z).isSome=true∨z=nm:=by
 rw [lookE_app] at h
 cases hl:lookE env z with
 | some t=>exact .inl rfl
 | none=>
  rw [hl] at h
  refine .inr ?_
  apply Classical.byContradiction
  intro hn
  have h':(lookE [(nm,t)] z).isSome=true:=h
  rw [lookE_cons,if_neg (fun e=>hn e.symm)] at h'
  cases h'
theorem Know.sub {r r':RS} {env:Env} (h:Know r env) (hd:∀ z∈r.decl,z∈r'.decl):Know r' env:=fun z hz=>hd z (h z hz)
theorem Know.snoc {r r':RS} {env:Env} {nm:Sec} {t:Int} (h:Know r env) (hd:r'.decl=r.decl++[nm]):Know r' (env++[(nm,t)]):=fun z hz=>by
 rw [hd]
 rcases lookE_snoc hz with h1 | h1
 ·exact List.mem_append_left _ (h z h1)
 ·simp [h1]
theorem SameN.snoc {r:RS} {env:Env} {m:Nms} {ve:VE} {nm:Sec} {t:Int} (h:SameN env m (lastE ve)) (hk:Know r env) (hn:nm∉r.decl) (v:Int):SameN (env++[(nm,t)]) (nput m nm v) (lastE (ve++[(nm,v)])):=fun z hz=>by
 rw [lastE_snoc]
 unfold nput
 by_cases e:z=nm
 ·rw [if_pos e,if_pos e]
 ·rw [if_neg e,if_neg e]
  rcases lookE_snoc hz with h1 | h1
  ·exact h z h1
  ·exact absurd h1 e
structure Ran (r:RS) (env:Env) (s:PS) (r':RS) (env':Env) (s':PS) (q:List Int×VE):Prop where
 cells:s'.c=q.1
 same:SameN env' s'.m (lastE q.2)
 old:∀ z∈r.decl,s'.m z=s.m z
 know:Know r' env'
 decl:∀ z∈r.decl,z∈r'.decl
theorem getD_cons2 {c:List Int} {m m':Nms} {x y:E} {xs:List E} (h1:exV c m x=exV c m' x) (h2:exV c m y=exV c m' y):(exVs c m (x :: y :: xs)).getD 0 0=(exVs c m' (x :: y :: xs)).getD 0 0∧(exVs c m (x :: y :: xs)).getD 1 0=(exVs c m' (x :: y :: xs)).getD 1 0:=by
 unfold exVs
 unfold exVs
 exact ⟨h1,h2⟩
theorem getD_cons1 {c:List Int} {m m':Nms} {x:E} {xs:List E} (h1:exV c m x=exV c m' x):(exVs c m (x :: xs)).getD 0 0=(exVs c m' (x :: xs)).getD 0 0:=by
 unfold exVs
 exact h1
theorem loop_same {r:RS} {env:Env} {m:Nms} {ve:VE} {nm:Sec} (f:Nat→PS→PS) (g:Nat→List Int→List Int)
  (hf:∀ i s,(∀ z∈r.decl,s.m z=m z)→(f i s).c=g i s.c∧∀ z∈r.decl,(f i s).m z=m z):∀ (j:Nat) (s:PS),(∀ z∈r.decl,s.m z=m z)→(loopA f j s).c=loopA g j s.c∧∀ z∈r.decl,(loopA f j s).m z=m z
 | 0,s,h=>⟨rfl,h⟩
 | j+1,s,h=>by
  obtain ⟨h1,h2⟩:=loop_same (env:=env) (ve:=ve) (nm:=nm) f g hf j s h
  obtain ⟨h3,h4⟩:=hf j _ h2
  refine ⟨?_,h4⟩
  show (f j (loopA f j s)).c=g j (loopA g j s.c)
  rw [h3,h1]
mutual
theorem stmt_same:∀ (x:St) (r:RS) (env:Env) (s:PS) (ve:VE),wS x→(stmtD r x env).1.code=0→Know r env→SameN env s.m (lastE ve)→Ran r env s (stmtD r x env).1 (stmtD r x env).2 (pgS x s) (dcS x (s.c,ve))
 | .mk k nm xs n bd els p,r,env,s,ve,hw,h0,hk,hs=>by
  unfold wS at hw
  obtain ⟨hi,-,hx,hb,he⟩:=hw
  unfold stmtD at h0⊢
  unfold pgS dcS
  by_cases k1:k=1
  ·rw [if_pos k1] at h0
   simp only [if_pos k1]
   rcases hi with h1 | h1 | h1
   ·obtain ⟨-,hlen⟩:=h1
    rcases xs with _ | ⟨x,_ | ⟨y,ys⟩⟩
    ·simp at hlen
    ·dsimp only at h0⊢
     obtain ⟨d1,d2,d3⟩:=declare_code h0
     rw [kindR_decl] at d2 d3
     have hv:=getD_cons1 (xs:=[]) (kind_same s.c hs x r d1)
     rw [hv]
     exact ⟨rfl,hs.snoc hk d2 _,fun z hz=>nput_ne (fun e=>d2 (by rw [← e];exact hz)),hk.snoc d3,fun z hz=>by rw [d3];exact List.mem_append_left _ hz⟩
    ·simp at hlen
   ·omega
   ·omega
  ·rw [if_neg k1] at h0
   simp only [if_neg k1]
   by_cases k6:k=6
   ·rw [if_pos k6] at h0
    simp only [if_pos k6]
    rcases hi with h1 | h1 | h1
    ·obtain ⟨-,hlen⟩:=h1
     rcases xs with _ | ⟨x,_ | ⟨y,ys⟩⟩
     ·simp at hlen
     ·dsimp only at h0⊢
      have c1:(blockD (needR r x 2 env) bd env).1.code=0:=code_of_bad (fun y hy=>RS.bad.block els _ y env hy) h0
      have c2:(needR r x 2 env).code=0:=code_of_bad (fun y hy=>RS.bad.block bd _ y env hy) c1
      have hv:=getD_cons1 (xs:=[]) (kind_same s.c hs x r (need_code c2).1)
      have e1:=needR_decl r x 2 env
      have r1:=block_same bd (needR r x 2 env) env s ve hb c1 (hk.sub (by rw [e1];exact fun z h=>h)) hs
      have d1:∀ z∈r.decl,z∈(blockD (needR r x 2 env) bd env).1.decl:=fun z hz=>r1.decl z (by rw [e1];exact hz)
      have r2:=block_same els _ env s ve he h0 (hk.sub d1) hs
      rw [hv]
      split
      ·exact ⟨r1.cells,fun z hz=>by rw [r1.old z (by rw [e1];exact hk z hz)];exact hs z hz,fun z hz=>r1.old z (by rw [e1];exact hz),fun z hz=>r2.decl z (d1 z (hk z hz)),fun z hz=>r2.decl z (d1 z hz)⟩
      ·exact ⟨r2.cells,fun z hz=>by rw [r2.old z (d1 z (hk z hz))];exact hs z hz,fun z hz=>r2.old z (d1 z hz),fun z hz=>r2.decl z (d1 z (hk z hz)),fun z hz=>r2.decl z (d1 z hz)⟩
     ·simp at hlen
    ·omega
    ·omega
   ·rw [if_neg k6] at h0
    simp only [if_neg k6]
    by_cases k7:k=7∨k=8
    ·rw [if_pos k7] at h0
     simp only [if_pos k7]
     generalize hR:(if 64 < n then (r.declare nm p).fail 11 p else r.declare nm p)=R at h0⊢
     have c1:R.code=0:=code_of_bad (fun y hy=>RS.bad.block bd _ y _ hy) h0
     have hR':R=r.declare nm p:=by
      rw [← hR]
      split
      ·rename_i h64
       rw [if_pos h64] at hR
       rw [← hR] at c1
       exact absurd c1 (fail_ne (by decide))
      ·rfl
     rw [hR'] at c1
     obtain ⟨d1,d2,d3⟩:=declare_code c1
     rw [← hR'] at d3
     have kk:Know R (env++[(nm,1)]):=hk.snoc d3
     have round:∀ (v:Int) (s':PS),(∀ z∈r.decl,s'.m z=s.m z)→(pgB bd ⟨s'.c,nput s'.m nm v⟩).c=(dcB bd (s'.c,ve++[(nm,v)])).1∧∀ z∈r.decl,(pgB bd ⟨s'.c,nput s'.m nm v⟩).m z=s.m z:=by
      intro v s' h'
      have hs':SameN env s'.m (lastE ve):=fun z hz=>by rw [h' z (hk z hz)];exact hs z hz
      have r1:=block_same bd R (env++[(nm,1)]) ⟨s'.c,nput s'.m nm v⟩ (ve++[(nm,v)]) hb h0 kk (hs'.snoc hk d2 v)
      refine ⟨r1.cells,fun z hz=>?_⟩
      rw [r1.old z (by rw [d3];exact List.mem_append_left _ hz)]
      show nput s'.m nm v z=s.m z
      unfold nput
      rw [if_neg (fun e=>d2 (by rw [← e];exact hz))]
      exact h' z hz
     have dd:∀ z∈r.decl,z∈(blockD R bd (env++[(nm,1)])).1.decl:=fun z hz=>by
      refine (block_same bd R (env++[(nm,1)]) ⟨s.c,nput s.m nm 0⟩ (ve++[(nm,0)]) hb h0 kk (hs.snoc hk d2 0)).decl z ?_
      rw [d3]
      exact List.mem_append_left _ hz
     rcases k7 with k7 | k7
     ·simp only [if_pos k7]
      obtain ⟨l1,l2⟩:=loop_same (r:=r) (env:=env) (ve:=ve) (nm:=nm) (m:=s.m) (fun i s'=>pgB bd ⟨s'.c,nput s'.m nm (i:Int)⟩) (fun i c=>(dcB bd (c,ve++[(nm,(i:Int))])).1) (fun i s' h'=>round _ s' h') n.toNat s (fun z _=>rfl)
      exact ⟨l1,fun z hz=>by rw [l2 z (hk z hz)];exact hs z hz,l2,hk.sub dd,dd⟩
     ·have k7':¬ k=7:=by omega
      simp only [if_neg k7',if_pos k7]
      obtain ⟨l1,l2⟩:=loop_same (r:=r) (env:=env) (ve:=ve) (nm:=nm) (m:=s.m) (fun i s'=>pgB bd ⟨s'.c,nput s'.m nm (n - 1 - (i:Int))⟩) (fun i c=>(dcB bd (c,ve++[(nm,n - 1 - (i:Int))])).1) (fun i s' h'=>round _ s' h') n.toNat s (fun z _=>rfl)
      exact ⟨l1,fun z hz=>by rw [l2 z (hk z hz)];exact hs z hz,l2,hk.sub dd,dd⟩
    ·rw [if_neg k7] at h0
     have k7':¬ k=7:=fun e=>k7 (.inl e)
     have k8':¬ k=8:=fun e=>k7 (.inr e)
     simp only [if_neg k7,if_neg k7',if_neg k8']
     rcases hi with h1 | h1 | h1
     ·omega
     ·obtain ⟨-,hlen⟩:=h1
      rcases xs with _ | ⟨x,_ | ⟨y,_ | ⟨z,ys⟩⟩⟩
      ·simp at hlen
      ·simp at hlen
      ·dsimp only at h0⊢
       obtain ⟨c1,c2⟩:=need_code h0
       obtain ⟨c3,c4⟩:=need_code c2
       have e1:(needR (needR r x 1 env) y 1 env).decl=r.decl:=by rw [needR_decl,needR_decl]
       obtain ⟨v1,v2⟩:=getD_cons2 (xs:=[]) (kind_same s.c hs x r c3) (kind_same s.c hs y _ c1)
       rw [v1,v2]
       split
       ·exact ⟨rfl,hs,fun _ _=>rfl,hk.sub (by rw [e1];exact fun z h=>h),by rw [e1];exact fun z h=>h⟩
       ·exact ⟨rfl,hs,fun _ _=>rfl,hk.sub (by rw [e1];exact fun z h=>h),by rw [e1];exact fun z h=>h⟩
      ·simp at hlen
     ·omega
theorem block_same:∀ (xs:List St) (r:RS) (env:Env) (s:PS) (ve:VE),wB xs→(blockD r xs env).1.code=0→Know r env→SameN env s.m (lastE ve)→Ran r env s (blockD r xs env).1 (blockD r xs env).2 (pgB xs s) (dcB xs (s.c,ve))
 | [],r,env,s,ve,_,h0,hk,hs=>by
  unfold blockD pgB dcB
  exact ⟨rfl,hs,fun _ _=>rfl,hk,fun z h=>h⟩
 | x :: xs,r,env,s,ve,hw,h0,hk,hs=>by
  unfold wB at hw
  unfold blockD at h0⊢
  unfold pgB dcB
  have c1:(stmtD r x env).1.code=0:=code_of_bad (fun y hy=>RS.bad.block xs _ y _ hy) h0
  have r1:=stmt_same x r env s ve hw.1 c1 hk hs
  have r2:=block_same xs _ _ (pgS x s) (dcS x (s.c,ve)).2 hw.2 h0 r1.know r1.same
  rw [r1.cells] at r2
  exact ⟨r2.cells,r2.same,fun z hz=>by rw [r2.old z (r1.decl z hz)];exact r1.old z hz,r2.know,fun z hz=>r2.decl z (r1.decl z hz)⟩
end
end Go.Proofs.Ytiaeagpepfmfgaa
namespace Go.Proofs.Ytiaeagpepfmfgaa
open Go.RowKit Go.Maps
set_option linter.unusedSimpArgs false
set_option linter.unusedVariables false
def bI (b:Bool):Int:=if b=true then 1 else 0
theorem truth_any (b:Bool) (w:World):Calls Try.prog 49 #[.bool b] w fun e w'=>e=.returned (.int .i64 (bI b))∧w=w':=by
 cases b
 ·go_enter Try.func49,Try.ntmps49
  go_wp2
  go_ret
  exact ⟨rfl,rfl⟩
 ·go_enter Try.func49,Try.ntmps49
  go_wp2
  go_ret
  exact ⟨rfl,rfl⟩
theorem opV_add (a b:Int):opV [43] a b=wrap64 (a+b):=by simp [opV]
theorem opV_sub (a b:Int):opV [45] a b=wrap64 (a - b):=by simp [opV]
theorem opV_mul (a b:Int):opV [42] a b=wrap64 (a*b):=by simp [opV]
theorem opV_div0 (a:Int):opV [47] a 0=0:=by simp [opV]
theorem opV_div (a:Int) {b:Int} (h:b≠0):opV [47] a b=wrap64 (a.tdiv b):=by simp [opV,h]
theorem opV_mod0 (a:Int):opV [37] a 0=0:=by simp [opV]
theorem opV_mod (a:Int) {b:Int} (h:b≠0):opV [37] a b=wrap64 (a.tmod b):=by simp [opV,h]
theorem opV_lt (a b:Int):opV [60] a b=bI (decide (a < b)):=by simp [opV,tr,bI]
theorem opV_le (a b:Int):opV [60,61] a b=bI (decide (a≤b)):=by simp [opV,tr,bI]
theorem opV_gt (a b:Int):opV [62] a b=bI (decide (b < a)):=by simp [opV,tr,bI]
theorem opV_ge (a b:Int):opV [62,61] a b=bI (decide (b≤a)):=by simp [opV,tr,bI]
theorem opV_eq (a b:Int):opV [61,61] a b=bI (a == b):=by simp [opV,tr,bI]
theorem opV_ne (a b:Int):opV [33,61] a b=bI (a != b):=by simp [opV,tr,bI]
theorem opV_and (a b:Int):opV [38,38] a b=bI (a != 0 && b != 0):=by simp [opV,tr,bI]
theorem opV_or (a b:Int):opV [124,124] a b=bI (a != 0 || b != 0):=by simp [opV,tr,bI]
set_option maxRecDepth 100000 in
set_option maxHeartbeats 4000000 in
theorem operate_any (s:ByteArray) (a b:Int) (w:World) (hn:n64 b) (hs:s.data.toList∈ops7) :
  Calls Try.prog 50 #[.string s,.int .i64 a,.int .i64 b] w fun e w'=>e=.returned (.tuple #[.int .i64 (opV s.data.toList a b),.bool true])∧w=w':=by
 simp only [ops7,List.mem_cons,List.not_mem_nil,or_false] at hs
 rcases hs with h | h | h | h | h | h | h | h | h | h | h | h | h<;>obtain rfl:=str_eq_iff.2 h<;>clear h
 ·by_cases ha:a=0
  ·subst ha
   have hv:opV [124,124] 0 b=bI (b != 0):=by rw [opV_or,show ((0:Int) != 0)=false from rfl,Bool.false_or]
   generalize opV _ _ _=T at hv⊢
   go_enter Try.func50,Try.ntmps50
   go_wp2_with fail
   refine (truth_any _ _).mono ?_
   rintro e w1 ⟨rfl,rfl⟩
   rw [← hv]
   clear hv
   go_wp2_with fail
   go_ret2
   exact ⟨rfl,rfl⟩
  ·have ha':(a != 0)=true:=by simpa using ha
   have hv:opV [124,124] a b=bI true:=by rw [opV_or,ha',Bool.true_or]
   generalize opV _ _ _=T at hv⊢
   go_enter Try.func50,Try.ntmps50
   go_wp2_with fail
   refine (truth_any _ _).mono ?_
   rintro e w1 ⟨rfl,rfl⟩
   rw [← hv]
   clear hv
   go_wp2_with fail
   go_ret2
   exact ⟨rfl,rfl⟩
 ·by_cases ha:a=0
  ·subst ha
   have hv:opV [38,38] 0 b=bI false:=by rw [opV_and,show ((0:Int) != 0)=false from rfl,Bool.false_and]
   generalize opV _ _ _=T at hv⊢
   go_enter Try.func50,Try.ntmps50
   go_wp2_with fail
   refine (truth_any _ _).mono ?_
   rintro e w1 ⟨rfl,rfl⟩
   rw [← hv]
   clear hv
   go_wp2_with fail
   go_ret2
   exact ⟨rfl,rfl⟩
  ·have ha':(a != 0)=true:=by simpa using ha
   have hv:opV [38,38] a b=bI (b != 0):=by rw [opV_and,ha',Bool.true_and]
   generalize opV _ _ _=T at hv⊢
   go_enter Try.func50,Try.ntmps50
   go_wp2_with fail
   refine (truth_any _ _).mono ?_
   rintro e w1 ⟨rfl,rfl⟩
   rw [← hv]
   clear hv
   go_wp2_with fail
   go_ret2
   exact ⟨rfl,rfl⟩
 ·have hv:=opV_lt a b
  generalize opV _ _ _=T at hv⊢
  go_enter Try.func50,Try.ntmps50
  go_wp2_with fail
  refine (truth_any _ _).mono ?_
  rintro e w1 ⟨rfl,rfl⟩
  rw [← hv]
  clear hv
  go_wp2_with fail
  go_ret2
  exact ⟨rfl,rfl⟩
 ·have hv:=opV_le a b
  generalize opV _ _ _=T at hv⊢
  go_enter Try.func50,Try.ntmps50
  go_wp2_with fail
  refine (truth_any _ _).mono ?_
  rintro e w1 ⟨rfl,rfl⟩
  rw [← hv]
  clear hv
  go_wp2_with fail
  go_ret2
  exact ⟨rfl,rfl⟩
 ·have hv:=opV_gt a b
  generalize opV _ _ _=T at hv⊢
  go_enter Try.func50,Try.ntmps50
  go_wp2_with fail
  refine (truth_any _ _).mono ?_
  rintro e w1 ⟨rfl,rfl⟩
  rw [← hv]
  clear hv
  go_wp2_with fail
  go_ret2
  exact ⟨rfl,rfl⟩
 ·have hv:=opV_ge a b
  generalize opV _ _ _=T at hv⊢
  go_enter Try.func50,Try.ntmps50
  go_wp2_with fail
  refine (truth_any _ _).mono ?_
  rintro e w1 ⟨rfl,rfl⟩
  rw [← hv]
  clear hv
  go_wp2_with fail
  go_ret2
  exact ⟨rfl,rfl⟩
 ·have hv:=opV_eq a b
  generalize opV _ _ _=T at hv⊢
  go_enter Try.func50,Try.ntmps50
  go_wp2_with fail
  refine (truth_any _ _).mono ?_
  rintro e w1 ⟨rfl,rfl⟩
  rw [← hv]
  clear hv
  go_wp2_with fail
  go_ret2
  exact ⟨rfl,rfl⟩
 ·have hv:=opV_ne a b
  generalize opV _ _ _=T at hv⊢
  go_enter Try.func50,Try.ntmps50
  go_wp2_with fail
  refine (truth_any _ _).mono ?_
  rintro e w1 ⟨rfl,rfl⟩
  rw [← hv]
  clear hv
  go_wp2_with fail
  go_ret2
  exact ⟨rfl,rfl⟩
 ·have hv:=opV_add a b
  go_enter Try.func50,Try.ntmps50
  go_wp2_with fail
  go_ret2
  exact ⟨by rw [hv]<;>rfl,rfl⟩
 ·have hv:=opV_sub a b
  go_enter Try.func50,Try.ntmps50
  go_wp2_with fail
  go_ret2
  exact ⟨by rw [hv]<;>rfl,rfl⟩
 ·have hv:=opV_mul a b
  go_enter Try.func50,Try.ntmps50
  go_wp2_with fail
  go_ret2
  exact ⟨by rw [hv]<;>rfl,rfl⟩
 ·by_cases hb:b=0
  ·subst hb
   have hv:=opV_div0 a
   go_enter Try.func50,Try.ntmps50
   go_wp2_with fail
   go_ret2
   exact ⟨by rw [hv]<;>rfl,rfl⟩
  ·have hv:=opV_div a hb
   have hb':(b == 0)=false:=by simpa using hb
   go_enter Try.func50,Try.ntmps50
   go_wp2_with fail
   go_ret2
   exact ⟨by rw [hv]<;>rfl,rfl⟩
 ·by_cases hb:b=0
  ·subst hb
   have hv:=opV_mod0 a
   go_enter Try.func50,Try.ntmps50
   go_wp2_with fail
   go_ret2
   exact ⟨by rw [hv]<;>rfl,rfl⟩
  ·have hv:=opV_mod a hb
   rw [wrap_tmod a hn hb] at hv
   have hb':(b == 0)=false:=by simpa using hb
   go_enter Try.func50,Try.ntmps50
   go_wp2_with fail
   go_ret2
   exact ⟨by rw [hv]<;>rfl,rfl⟩
end Go.Proofs.Ytiaeagpepfmfgaa
namespace Go.Proofs.Ytiaeagpepfmfgaa
open Go.RowKit Go.Maps
set_option linter.unusedSimpArgs false
set_option linter.unusedVariables false
def miss:List Sec→Nms→Nat
 | [],_=>0
 | z :: l,m=>(if (m z).isSome=true then 0 else 1)+miss l m
theorem miss_le (m:Nms) (k:Sec) (v:Int):∀ L,miss L (nput m k v)≤miss L m
 | []=>Nat.le_refl _
 | z :: l=>by
  have:=miss_le m k v l
  unfold miss
  by_cases e:z=k
  ·subst e
   have h:(nput m z v z).isSome=true:=by unfold nput;rw [if_pos rfl];rfl
   rw [if_pos h]
   split<;>omega
  ·rw [nput_ne e]
   omega
theorem miss_lt {m:Nms} {k:Sec} (v:Int) (hm:(m k).isSome=false):∀ {L:List Sec},k∈L→miss L (nput m k v)+1≤miss L m
 | z :: l,h=>by
  unfold miss
  by_cases e:z=k
  ·subst e
   have h1:(nput m z v z).isSome=true:=by unfold nput;rw [if_pos rfl];rfl
   rw [if_pos h1,hm]
   have:=miss_le m z v l
   simp
   omega
  ·rw [nput_ne e]
   have:=miss_lt v hm (L:=l) (by simpa [Ne.symm e] using h)
   omega
theorem NMap.tight {w:World} {b n cnt:Nat} {e:TypeId} {m:Nms} (h:NMap w b e n cnt m):NMap w b e cnt cnt m:=by
 obtain ⟨D,⟨es,clock,h1,h2,h3,h4⟩,hr,hs⟩:=h
 refine ⟨D,⟨es,clock,h1,h2,?_,h4⟩,hr,hs⟩
 rw [← hs,h4]
 show es.size≤List.length _
 rw [length_read]
 exact Nat.le_refl _
def runA (n:Int) (c:List Int) (b:Nat):Array Value:=(iv (n :: c)++[Value.map (some b)]).toArray
theorem runA_cell {n:Int} {c:List Int} {b i:Nat} {z:Int} (h:c[i]?=some z):(runA n c b)[1+i]?=some (.int .i64 z):=by
 have hi:i < c.length:=(List.getElem?_eq_some_iff.1 h).1
 have hlt:1+i < (iv (n :: c)).length:=by rw [iv_length,List.length_cons];omega
 unfold runA
 rw [List.getElem?_toArray,List.getElem?_append_left hlt]
 have:(iv (n :: c))[1+i]?=((n :: c)[1+i]?).map (Value.int .i64):=by unfold iv;rw [List.getElem?_map]
 rw [this,Nat.add_comm,List.getElem?_cons_succ,h]
 rfl
theorem runA_names {n:Int} {c:List Int} {b:Nat} (h:c.length=60):(runA n c b)[61]?=some (.map (some b)):=by
 have hl:(iv (n :: c)).length=61:=by rw [iv_length,List.length_cons,h]
 unfold runA
 rw [List.getElem?_toArray,List.getElem?_append_right (by omega),hl]
 rfl
theorem runA_set {n:Int} {c:List Int} {b i:Nat} (hi:i < c.length) (v:Int):(runA n c b).setIfInBounds (1+i) (.int .i64 v)=runA n (c.set i v) b:=by
 have hlt:1+i < (iv (n :: c)).length:=by rw [iv_length,List.length_cons];omega
 unfold runA
 rw [List.setIfInBounds_toArray,List.set_append_left _ _ hlt]
 congr 2
 have:(iv (n :: c)).set (1+i) (Value.int .i64 v)=iv ((n :: c).set (1+i) v):=by simp [iv,List.map_set]
 rw [this,Nat.add_comm,List.set_cons_succ]
structure RM (w:World) (g b:Nat) (L:List Sec) (C:Nat) (n:Int) (s:PS):Prop where
 row:w.heap[g]?=some (.cells (runA n s.c b) 68 (0,0))
 names:∃ cnt,NMap w b 3 cnt cnt s.m∧cnt+miss L s.m≤C
 sw:SW s
 lim:C≤60000
section
variable {w w':World} {g b:Nat} {L:List Sec} {C:Nat} {n:Int} {s:PS}
theorem RM.kept {S:List Nat} (h:RM w g b L C n s) (ho:Only S w w') (hg:g∉S) (hb:b∉S):RM w' g b L C n s:=by
 obtain ⟨cnt,h1,h2⟩:=h.names
 exact ⟨ho.heap h.row hg,⟨cnt,h1.kept ho hb,h2⟩,h.sw,h.lim⟩
theorem RM.quiet (h:RM w g b L C n s) (ho:Only [] w w'):RM w' g b L C n s:=h.kept ho (by simp) (by simp)
theorem RM.g_lt (h:RM w g b L C n s):g < w.heap.size:=lt_of_heap h.row
theorem RM.b_lt (h:RM w g b L C n s):b < w.heap.size:=by obtain ⟨cnt,h1,_⟩:=h.names;exact h1.lt
theorem RM.ne (h:RM w g b L C n s):b≠g:=by obtain ⟨cnt,h1,_⟩:=h.names;exact h1.ne h.row
theorem RM.map (h:RM w g b L C n s):w.cell? ⟨g,61,none⟩=some (.map (some b)):=by rw [cell_at 61 h.row];exact runA_names h.sw.1.len
theorem RM.cell (h:RM w g b L C n s) {i:Nat} (hi:i < 60):w.cell? ⟨g,1+i,none⟩=some (.int .i64 (s.c.getD i 0)):=by
 have hl:i < s.c.length:=by rw [h.sw.1.len];exact hi
 rw [cell_at _ h.row]
 refine runA_cell ?_
 rw [List.getD_eq_getElem?_getD,List.getElem?_eq_getElem hl]
 rfl
theorem RM.free (h:RM w g b L C n s) (i:Nat):w.frozen? ⟨g,i,none⟩=false:=free_at i h.row
theorem RM.set (h:RM w g b L C n s) {i:Nat} (hi:i < 60) {v:Int} (hv:n64 v):RM (w.setCell ⟨g,1+i,none⟩ (.int .i64 v)) g b L C n ⟨s.c.set i v,s.m⟩:=by
 have ho:Only [g] w (w.setCell ⟨g,1+i,none⟩ (.int .i64 v)):=(Only.refl _ _).setCell (.inl (by simp)) _
 obtain ⟨cnt,h1,h2⟩:=h.names
 have hl:i < s.c.length:=by rw [h.sw.1.len];exact hi
 have hr:=heap_cell (i:=1+i) (.int .i64 v) h.row
 rw [runA_set hl] at hr
 exact ⟨hr,⟨cnt,h1.kept ho (by simpa using h.ne),h2⟩,⟨h.sw.1.set i hv,h.sw.2⟩,h.lim⟩
theorem RM.put {cnt:Nat} {k:Sec} {v:Int} (h:RM w g b L C n s) (hk:k∈L) (hv:n64 v) (hc:cnt+miss L s.m≤C)
  (hm:NMap w' b 3 (cnt+1) (if (s.m k).isSome=true then cnt else cnt+1) (nput s.m k v)) (ho:Only [b] w w'):RM w' g b L C n ⟨s.c,nput s.m k v⟩:=by
 refine ⟨ho.heap h.row (by simpa using h.ne.symm),⟨_,hm.tight,?_⟩,⟨h.sw.1,h.sw.2.put k hv⟩,h.lim⟩
 show (if (s.m k).isSome=true then cnt else cnt+1)+miss L (nput s.m k v)≤C
 cases hq:(s.m k).isSome with
 | true=>
  rw [if_pos rfl]
  have:=miss_le s.m k v L
  omega
 | false=>
  rw [if_neg (by decide)]
  have:=miss_lt v hq hk
  omega
theorem run_load_pg (h:RM w g b L C n s):(loadVar 35 ⟨g,0,none⟩).run Try.prog w=.ok (.agg (ivA (n :: s.c))) w:=by
 have hlen:s.c.length=60:=h.sw.1.len
 have h1:(loadCells ⟨g,0,none⟩ (iv (n :: s.c)).length).run Try.prog w=.ok (iv (n :: s.c)).toArray w:=
  run_loadCells_list (P:=Try.prog) w ⟨g,0,none⟩ (iv (n :: s.c)) (fun j v hv=>by
   have hadd:(⟨g,0,none⟩:Addr).add j=⟨g,j,none⟩:=by unfold Addr.add;split<;>simp_all
   have hj:j < (iv (n :: s.c)).length:=(List.getElem?_eq_some_iff.1 hv).1
   rw [hadd,cell_at _ h.row]
   unfold runA
   rw [List.getElem?_toArray,List.getElem?_append_left hj]
   exact hv)
 have hs:=size_run (w:=w) (size_page (n :: s.c) (by rw [List.length_cons,hlen]))
 rw [ivA_size,List.length_cons,hlen] at hs
 rw [iv_length,List.length_cons,hlen] at h1
 simp [loadVar,isAgg,run_underlying Try.underlying35,hs,h1,ivA]
theorem exec_load_pg (h:RM w g b L C n s) (o:Oper) (ρ:Operand→Value) (x:Operand) (ho:o.op=.load 35 x) (hx:ρ x=.pointer (some ⟨g,0,none⟩)) :
  (execOp ρ o).run Try.prog w=.ok (.value (.agg (ivA (n :: s.c)))) w:=by
 simp [execOp,ho,hx,Instr.loadAt,Instr.sureAddr,run_load_pg h,Result.andThen]
theorem wpList_load_pg {ops:Array Oper} {rest:List Oper} {o:Oper} {a:Act} {Q:Exit→Act→World→Prop} (hgd:o.guard=none) (x:Operand) (ho:o.op=.load 35 x) (h:RM w g b L C n s) (hx:a.eval x=.pointer (some ⟨g,0,none⟩))
  (hk:wpList Try.prog ops Q rest (a.put o.dst (.agg (ivA (n :: s.c)))) w):wpList Try.prog ops Q (o :: rest) a w:=
 wpList_run hgd (.agg (ivA (n :: s.c))) (exec_load_pg h o _ x ho hx) hk
theorem Get_any {c:List Int} (hc:CW c) (n k:Int) (hk:n64 k) (w:World) :
  Calls Try.prog 48 #[.agg (ivA (n :: c)),.int .i64 k] w fun e w'=>e=.returned (.tuple #[.int .i64 (getC c k),.bool (decide (inC k))])∧Only [] w w':=by
 by_cases h:inC k
 ·have hl:k.toNat < c.length:=by rw [hc.len];omega
  have e:getC c k=c[k.toNat]:=by unfold getC;rw [if_pos h,List.getD_eq_getElem?_getD,List.getElem?_eq_getElem hl];rfl
  have K:=Get_yes n c k.toNat c[k.toNat] w (by omega) (List.getElem?_eq_getElem hl)
  rw [show ((k.toNat:Nat):Int)=k by omega] at K
  rw [e,decide_eq_true h]
  exact K
 ·have e:getC c k=0:=by unfold getC;rw [if_neg h]
  rw [e,decide_eq_false h]
  exact Get_no (n :: c) k w hk.1 hk.2 h
def cellP (g:Nat) (i:Int):Value:=.pointer (if inC i then some ⟨g,1+i.toNat,none⟩ else none)
set_option maxRecDepth 100000 in
set_option maxHeartbeats 4000000 in
theorem pcell_any (h:RM w g b L C n s) (i:Int) (hi:n64 i) :
  Calls Try.prog 73 #[.pointer (some ⟨g,0,none⟩),.int .i64 i] w fun e w'=>e=.returned (cellP g i)∧Only [] w w':=by
 have H:=Lib.hid h
 have HI:=Lib.hid hi
 obtain ⟨R,hR⟩:∃ R,R=cellP g i:=⟨_,rfl⟩
 rw [← hR]
 have HR:=Lib.hid hR
 clear h hi hR
 go_enter Try.func73,Try.ntmps73
 go_wp2_with (refine wpList_load_pg rfl _ rfl H.out (by rfl) ?_)
 refine (Get_any H.out.sw.1 n i HI.out w).mono ?_
 rintro e w1 ⟨rfl,o1⟩
 have HO:=Lib.hid o1
 clear o1
 by_cases hc:inC i
 ·obtain ⟨k,rfl⟩:∃ k:Nat,i=(k:Int):=⟨i.toNat,by omega⟩
  have hR:R=.pointer (some ⟨g,1+k,none⟩):=by rw [HR.out];unfold cellP;rw [if_pos hc];rfl
  have hk:(k:Int) < 60:=hc.2
  have hk0:(0:Int)≤(k:Int):=hc.1
  rw [decide_eq_true hc]
  have HRR:=Lib.hid hR
  clear hR hc HR
  go_wp2_with fail
  go_ret
  rw [HRR.out]
  exact ⟨rfl,HO.out⟩
 ·have hR:R=.pointer none:=by rw [HR.out];unfold cellP;rw [if_neg hc]
  rw [decide_eq_false hc]
  have HRR:=Lib.hid hR
  clear hR hc HR
  go_wp2_with fail
  go_ret
  rw [HRR.out]
  exact ⟨rfl,HO.out⟩
end
end Go.Proofs.Ytiaeagpepfmfgaa
namespace Go.Proofs.Ytiaeagpepfmfgaa
open Go.RowKit Go.Maps
set_option linter.unusedSimpArgs false
set_option linter.unusedVariables false
section
variable {w w':World} {g b:Nat} {L:List Sec} {C:Nat} {n:Int} {s:PS}
set_option maxRecDepth 100000 in
set_option maxHeartbeats 4000000 in
theorem named_any {cnt:Nat} {m:Nms} (hm:NMap w b 3 cnt cnt m) {nm:Sec} (hnm:nm.length≤65536) :
  Calls Try.prog 47 #[.string (strOf nm),.map (some b)] w fun e w'=>(∃ ok,e=.returned (.tuple #[.int .i64 (nmV m nm),.bool ok]))∧w=w':=by
 have hl:=hm.look Try.underlying66 Try.underlying3 zero_int hnm
 obtain ⟨V,hV⟩:∃ V,V=nmV m nm:=⟨_,rfl⟩
 rw [← hV]
 obtain ⟨sn,hsn⟩:∃ sn,sn=strOf nm:=⟨_,rfl⟩
 rw [← hsn] at hl⊢
 have hd:sn.data.toList=nm:=by rw [hsn];simp [strOf]
 unfold nmV at hV
 clear hm hsn
 by_cases h1:nm=[116,114,117,101]
 ·rw [if_pos h1] at hV
  subst hV
  obtain rfl:=str_eq_iff.2 (hd.trans h1)
  clear hd h1 hl
  go_enter Try.func47,Try.ntmps47
  go_wp2_with fail
  refine (truth_any _ _).mono ?_
  rintro e w1 ⟨rfl,rfl⟩
  go_wp2_with fail
  go_ret2
  exact ⟨⟨true,rfl⟩,rfl⟩
 ·rw [if_neg h1] at hV
  by_cases h2:nm=[102,97,108,115,101]
  ·rw [if_pos h2] at hV
   subst hV
   obtain rfl:=str_eq_iff.2 (hd.trans h2)
   clear hd h1 h2 hl
   go_enter Try.func47,Try.ntmps47
   go_wp2_with fail
   refine (truth_any _ _).mono ?_
   rintro e w1 ⟨rfl,rfl⟩
   go_wp2_with fail
   go_ret2
   exact ⟨⟨true,rfl⟩,rfl⟩
  ·rw [if_neg h2] at hV
   rw [← hV] at hl
   have n1:(sn.toList == [116,114,117,101])=false:=str_neq (fun e=>h1 (hd.symm.trans e))
   have n2:(sn.toList == [102,97,108,115,101])=false:=str_neq (fun e=>h2 (hd.symm.trans e))
   clear hd h1 h2 hV
   generalize (m nm).isSome=ok at hl
   go_enter Try.func47,Try.ntmps47
   go_wp2_with fail
   go_ret2
   exact ⟨⟨ok,rfl⟩,rfl⟩
set_option maxRecDepth 100000 in
set_option maxHeartbeats 4000000 in
theorem change_any (h:RM w g b L C n s) (k i v:Int) (hv:n64 v) :
  Calls Try.prog 74 #[.int .i64 k,cellP g i,.int .i64 v] w fun e w'=>e=.returned (.tuple #[])∧RM w' g b L C n ⟨chgC k s.c i v,s.m⟩∧Only [g] w w':=by
 by_cases hi:inC i
 ·obtain ⟨j,rfl⟩:∃ j:Nat,i=(j:Int):=⟨i.toNat,by omega⟩
  have hj:j < 60:=by omega
  have e1:cellP g (j:Int)=.pointer (some ⟨g,1+j,none⟩):=by unfold cellP;rw [if_pos hi];rfl
  have e2:getC s.c (j:Int)=s.c.getD j 0:=by unfold getC;rw [if_pos hi];rfl
  have hc:=h.cell hj
  have hf:=h.free (1+j)
  have H:=Lib.hid h
  have hset:∀ u,n64 u→RM (w.setCell ⟨g,1+j,none⟩ (.int .i64 u)) g b L C n ⟨s.c.set j u,s.m⟩∧Only [g] w (w.setCell ⟨g,1+j,none⟩ (.int .i64 u)):=fun u hu=>⟨h.set hj hu,(Only.refl _ _).setCell (.inl (by simp)) _⟩
  have HSET:=Lib.hid hset
  rw [e1]
  unfold chgC
  rw [if_pos hi,e2]
  rw [show ((j:Int)).toNat=j from rfl]
  generalize s.c.getD j 0=old at hc⊢
  clear h hi e1 e2 hset
  by_cases k2:k=2
  ·subst k2
   have HR:=Lib.hid (HSET.out v hv)
   rw [if_pos rfl]
   go_enter Try.func74,Try.ntmps74
   go_wp2_with fail
   go_end0
   exact ⟨rfl,HR.out⟩
  ·rw [if_neg k2]
   have k2':(k == 2)=false:=by simpa using k2
   by_cases k3:k=3
   ·subst k3
    have HR:=Lib.hid (HSET.out (wrap64 (old+v)) (n64_wrap _))
    rw [if_pos rfl]
    go_enter Try.func74,Try.ntmps74
    go_wp2_with fail
    go_end0
    exact ⟨rfl,HR.out⟩
   ·rw [if_neg k3]
    have k3':(k == 3)=false:=by simpa using k3
    by_cases k4:k=4
    ·subst k4
     have HR:=Lib.hid (HSET.out (wrap64 (old - v)) (n64_wrap _))
     rw [if_pos rfl]
     go_enter Try.func74,Try.ntmps74
     go_wp2_with fail
     go_end0
     exact ⟨rfl,HR.out⟩
    ·rw [if_neg k4]
     have k4':(k == 4)=false:=by simpa using k4
     clear hc hf
     go_enter Try.func74,Try.ntmps74
     go_wp2_with fail
     go_end0
     exact ⟨rfl,H.out,Only.refl _ _⟩
 ·have e1:cellP g i=.pointer none:=by unfold cellP;rw [if_neg hi]
  have e2:chgC k s.c i v=s.c:=by unfold chgC;rw [if_neg hi]
  have H:=Lib.hid h
  rw [e1,e2]
  clear h e1 e2 hi
  go_enter Try.func74,Try.ntmps74
  go_wp2_with fail
  (try simp only [Exit.inBlock,Exit.then])
  refine bodyPost_ret (results_none rfl _ _ _) rfl ?_
  exact ⟨rfl,H.out,Only.refl _ _⟩
set_option maxRecDepth 100000 in
set_option maxHeartbeats 4000000 in
theorem swap_any (h:RM w g b L C n s) (i j:Int) :
  Calls Try.prog 72 #[cellP g i,cellP g j] w fun e w'=>e=.returned (.tuple #[])∧RM w' g b L C n ⟨swpC s.c i j,s.m⟩∧Only [g] w w':=by
 by_cases hi:inC i
 ·obtain ⟨i',rfl⟩:∃ i':Nat,i=(i':Int):=⟨i.toNat,by omega⟩
  have hi':i' < 60:=by omega
  have e1:cellP g (i':Int)=.pointer (some ⟨g,1+i',none⟩):=by unfold cellP;rw [if_pos hi];rfl
  by_cases hj:inC j
  ·obtain ⟨j',rfl⟩:∃ j':Nat,j=(j':Int):=⟨j.toNat,by omega⟩
   have hj':j' < 60:=by omega
   have e2:cellP g (j':Int)=.pointer (some ⟨g,1+j',none⟩):=by unfold cellP;rw [if_pos hj];rfl
   have e3:swpC s.c (i':Int) (j':Int)=(s.c.set i' (getC s.c j')).set j' (getC s.c i'):=by unfold swpC;rw [if_pos ⟨hi,hj⟩];rfl
   have ci:=h.cell hi'
   have cj:=h.cell hj'
   have f1:getC s.c (i':Int)=s.c.getD i' 0:=by unfold getC;rw [if_pos hi];rfl
   have f2:getC s.c (j':Int)=s.c.getD j' 0:=by unfold getC;rw [if_pos hj];rfl
   rw [← f1] at ci
   rw [← f2] at cj
   have H:=Lib.hid h
   have n1:=h.sw.1.get (i':Int)
   have n2:=h.sw.1.get (j':Int)
   rw [e1,e2,e3]
   generalize getC s.c (i':Int)=x at ci n1⊢
   generalize getC s.c (j':Int)=y at cj n2⊢
   have N1:=Lib.hid n1
   have N2:=Lib.hid n2
   clear h e1 e2 e3 f1 f2 hi hj n1 n2
   go_enter Try.func72,Try.ntmps72
   go_upto_region 1 with (fail)
   have oD:Only [] w w.drew:=(Only.refl [] w).drew
   replace H:=Lib.hid (H.out.quiet oD)
   replace ci:=cell_kept oD ci (by simp)
   replace cj:=cell_kept oD cj (by simp)
   refine wp_region_C (S:=fun w'=>w'.cell? ⟨g,1+i',none⟩=some (.int .i64 x)∧w'.cell? ⟨g,1+j',none⟩=some (.int .i64 y)) [0,1,2,3,4,5,6,7,8,10] (by kernel_rfl) ⟨ci,cj⟩ (fun hH=>?_)
   have HD:=Lib.hid oD
   clear oD
   generalize w.drew=w1 at H HD ci cj hH⊢
   refine takeP_list (i:=0) (v:=?_) rfl (by kernel_rfl) (by kernel_rfl) (by kernel_rfl) (fun _ _ _ h=>h) (Or.inl ⟨by rfl,?_⟩) ?_
   rotate_left
   ·((intro w hSw;(try dsimp only at hSw);go_simp);try with_reducible rfl)
   simp only [Act.put,List.setIfInBounds_toArray,List.set_cons_zero,List.set_cons_succ]
   refine takeP_list (i:=1) (v:=?_) rfl (by kernel_rfl) (by kernel_rfl) (by kernel_rfl) (fun _ _ _ h=>h) (Or.inl ⟨by rfl,?_⟩) ?_
   rotate_left
   ·((intro w hSw;(try dsimp only at hSw);go_simp);try with_reducible rfl)
   simp only [Act.put,List.setIfInBounds_toArray,List.set_cons_zero,List.set_cons_succ]
   refine takeP_list (i:=2) (v:=?_) rfl (by kernel_rfl) (by kernel_rfl) (by kernel_rfl) (fun _ _ _ h=>h) (Or.inl ⟨by rfl,?_⟩) ?_
   rotate_left
   ·((intro w hSw;(try dsimp only at hSw);go_simp);try with_reducible rfl)
   simp only [Act.put,List.setIfInBounds_toArray,List.set_cons_zero,List.set_cons_succ]
   refine takeP_list (i:=3) (v:=?_) rfl (by kernel_rfl) (by kernel_rfl) (by kernel_rfl) (fun _ _ _ h=>h) (Or.inl ⟨by rfl,?_⟩) ?_
   rotate_left
   ·((intro w hSw;(try dsimp only at hSw);go_simp);try with_reducible rfl)
   simp only [Act.put,List.setIfInBounds_toArray,List.set_cons_zero,List.set_cons_succ]
   refine takeC_list (i:=4) (v:=?_) rfl (by kernel_rfl) (by kernel_rfl) (by kernel_rfl) (by kernel_rfl) (fun _ _ _ h=>h) (Or.inl ⟨by rfl,?_⟩) hH ?_
   rotate_left
   ·((intro w hSw;(try dsimp only at hSw);go_simp);try with_reducible rfl)
   simp only [Act.put,List.setIfInBounds_toArray,List.set_cons_zero,List.set_cons_succ]
   refine takeP_list (i:=5) (v:=?_) rfl (by kernel_rfl) (by kernel_rfl) (by kernel_rfl) (fun _ _ _ h=>h) (Or.inl ⟨by rfl,?_⟩) ?_
   rotate_left
   ·((intro w hSw;(try dsimp only at hSw);go_simp);try with_reducible rfl)
   simp only [Act.put,List.setIfInBounds_toArray,List.set_cons_zero,List.set_cons_succ]
   refine takeP_list (i:=6) (v:=?_) rfl (by kernel_rfl) (by kernel_rfl) (by kernel_rfl) (fun _ _ _ h=>h) (Or.inl ⟨by rfl,?_⟩) ?_
   rotate_left
   ·((intro w hSw;(try dsimp only at hSw);go_simp);try with_reducible rfl)
   simp only [Act.put,List.setIfInBounds_toArray,List.set_cons_zero,List.set_cons_succ]
   refine takeC_list (i:=7) (v:=?_) rfl (by kernel_rfl) (by kernel_rfl) (by kernel_rfl) (by kernel_rfl) (fun _ _ _ h=>h) (Or.inl ⟨by rfl,?_⟩) hH ?_
   rotate_left
   ·((intro w hSw;(try dsimp only at hSw);go_simp);try with_reducible rfl)
   simp only [Act.put,List.setIfInBounds_toArray,List.set_cons_zero,List.set_cons_succ]
   refine takeP_list (i:=8) (v:=?_) rfl (by kernel_rfl) (by kernel_rfl) (by kernel_rfl) (fun _ _ _ h=>h) (Or.inl ⟨by rfl,?_⟩) ?_
   rotate_left
   ·((intro w hSw;(try dsimp only at hSw);go_simp);try with_reducible rfl)
   simp only [Act.put,List.setIfInBounds_toArray,List.set_cons_zero,List.set_cons_succ]
   have hfi:=H.out.free (1+i')
   refine readyC_out (i:=9) (by kernel_rfl) (by kernel_rfl) rfl (fun K hK=>?_)
   go_simp
   have H2:=Lib.hid (H.out.set hi' N2.out)
   have o2:Only [g] w1 (w1.setCell ⟨g,1+i',none⟩ (.int .i64 y)):=(Only.refl _ _).setCell (.inl (by simp)) _
   have HO2:=Lib.hid ((HD.out.mono (T:=[g]) (by simp)).trans o2 (fun k hk=>.inl hk))
   clear o2 ci cj hfi
   generalize w1.setCell ⟨g,1+i',none⟩ (.int .i64 y)=w2 at H2 HO2⊢
   refine hK.out _ _ ?_
   clear hK K hH
   refine takeP_list (i:=10) (v:=?_) rfl (by kernel_rfl) (by kernel_rfl) (by kernel_rfl) (fun _ _ _ h=>h) (Or.inl ⟨by rfl,?_⟩) ?_
   rotate_left
   ·((intro w hSw;(try dsimp only at hSw);go_simp);try with_reducible rfl)
   simp only [Act.put,List.setIfInBounds_toArray,List.set_cons_zero,List.set_cons_succ]
   have cj:=H2.out.cell hj'
   have hfj:=H2.out.free (1+j')
   refine readyC_out (i:=11) (by kernel_rfl) (by kernel_rfl) rfl (fun K hK=>?_)
   go_simp
   have H3:=Lib.hid (H2.out.set hj' N1.out)
   have o3:Only [g] w2 (w2.setCell ⟨g,1+j',none⟩ (.int .i64 x)):=(Only.refl _ _).setCell (.inl (by simp)) _
   have HO3:=Lib.hid (HO2.out.trans o3 (fun k hk=>.inl hk))
   clear o3 cj hfj
   generalize w2.setCell ⟨g,1+j',none⟩ (.int .i64 x)=w3 at H3 HO3⊢
   refine hK.out _ _ ?_
   clear hK K
   refine wpAnyC_done (by kernel_rfl) ?_ _
   go_wp2_with fail
   go_end0
   exact ⟨rfl,H3.out,HO3.out⟩
  ·have e2:cellP g j=.pointer none:=by unfold cellP;rw [if_neg hj]
   have e3:swpC s.c (i':Int) j=s.c:=by unfold swpC;rw [if_neg (fun h=>hj h.2)]
   have H:=Lib.hid h
   rw [e1,e2,e3]
   clear h e1 e2 e3 hi hj
   go_enter Try.func72,Try.ntmps72
   go_wp2_with fail
   go_end0
   exact ⟨rfl,H.out,Only.refl _ _⟩
 ·have e1:cellP g i=.pointer none:=by unfold cellP;rw [if_neg hi]
  have e3:swpC s.c i j=s.c:=by unfold swpC;rw [if_neg (fun h=>hi h.1)]
  have H:=Lib.hid h
  rw [e1,e3]
  obtain ⟨Q,hQ⟩:∃ Q,Q=cellP g j:=⟨_,rfl⟩
  rw [← hQ]
  obtain ⟨q,rfl⟩:∃ q,Q=.pointer q:=⟨_,hQ⟩
  clear h e1 e3 hi hQ
  go_enter Try.func72,Try.ntmps72
  go_wp2_with fail
  go_end0
  exact ⟨rfl,H.out,Only.refl _ _⟩
end
end Go.Proofs.Ytiaeagpepfmfgaa
namespace Go.Proofs.Ytiaeagpepfmfgaa
open Go.RowKit Go.Maps
set_option linter.unusedSimpArgs false
set_option linter.unusedVariables false
structure At5 (w:World) (gr o:Nat) (k n:Int) (sn:ByteArray) (a:Option Addr) (l c:Nat) (p:Int):Prop where
 c0:w.cell? ⟨gr,o,none⟩=some (.int .i64 k)
 c1:w.cell? ⟨gr,o+1,none⟩=some (.int .i64 n)
 c2:w.cell? ⟨gr,o+2,none⟩=some (.string sn)
 c3:w.cell? ⟨gr,o+3,none⟩=some (.slice a l c)
 c4:w.cell? ⟨gr,o+4,none⟩=some (.int .i64 p)
theorem At5.kept {w w':World} {gr o:Nat} {k n:Int} {sn:ByteArray} {a:Option Addr} {l c:Nat} {p:Int} {S:List Nat} (h:At5 w gr o k n sn a l c p) (ho:Only S w w') (hs:gr∉S):At5 w' gr o k n sn a l c p:=
 ⟨cell_kept ho h.c0 hs,cell_kept ho h.c1 hs,cell_kept ho h.c2 hs,cell_kept ho h.c3 hs,cell_kept ho h.c4 hs⟩
theorem EsO.at5 {w:World} {B:Nat→Prop} {gr:Nat} {xs:List E} (h:EsO w B gr 0 xs) {j:Nat} {e:E} (hj:xs[j]?=some e) :
  ∃ k n sn a l c p,EV w B e [.int .i64 k,.int .i64 n,.string sn,.slice a l c,.int .i64 p]∧At5 w gr (j*5) k n sn a l c p:=by
 obtain ⟨cs,hev,hcs⟩:=h j e hj
 obtain ⟨k1,n1,nm1,ys1,p1⟩:=e
 have hev':=hev
 unfold EV at hev'
 obtain ⟨a1,cap1,rfl,-,-⟩:=hev'
 refine ⟨_,_,_,_,_,_,_,hev,?_,?_,?_,?_,?_⟩
 ·have:=hcs 0 _ rfl;rwa [Nat.zero_add] at this
 ·have:=hcs 1 _ rfl;rwa [Nat.zero_add] at this
 ·have:=hcs 2 _ rfl;rwa [Nat.zero_add] at this
 ·have:=hcs 3 _ rfl;rwa [Nat.zero_add] at this
 ·have:=hcs 4 _ rfl;rwa [Nat.zero_add] at this
def XP (N:Nat):Prop:=∀ (e:E),sizeE e≤N→∀ (w:World) (g b:Nat) (L:List Sec) (C:Nat) (n:Int) (s:PS) (cs:List Value) (B:Nat→Prop),RM w g b L C n s→wE e→gE e→EV w B e cs→
 Calls Try.prog 22 #[.pointer (some ⟨g,0,none⟩),.agg cs.toArray] w fun en w'=>en=.returned (.int .i64 (exV s.c s.m e))∧Only [] w w'
theorem exV_mk (c:List Int) (m:Nms) (k n:Int) (nm:Sec) (xs:List E) (p:Int):exV c m (.mk k n nm xs p)=exO c m k n nm (exVs c m xs):=by conv=>lhs;unfold exV
theorem exVs_one (c:List Int) (m:Nms) (x:E) (xs:List E):(exVs c m (x :: xs)).getD 0 0=exV c m x:=by unfold exVs;rfl
theorem exVs_two (c:List Int) (m:Nms) (x y:E) (xs:List E):(exVs c m (x :: y :: xs)).getD 1 0=exV c m y:=by unfold exVs;unfold exVs;rfl
set_option maxRecDepth 100000 in
set_option maxHeartbeats 8000000 in
theorem pexpr_step (N : Nat) (IE : XP N) : XP (N + 1) := by
  intro e hN w g b LL C nn s cs B h hw hg hev
  obtain ⟨k,num,nm,ys,p⟩ := e
  unfold wE at hw
  obtain ⟨hi,hnm,hwl⟩ := hw
  unfold gE at hg
  obtain ⟨hnum,hgl⟩ := hg
  have hsz : sizeL ys ≤ N := by unfold sizeE at hN;omega
  unfold EV at hev
  obtain ⟨a,cap,rfl,hcap,hx⟩ := hev
  obtain ⟨R,hR⟩ : ∃ R,R = exV s.c s.m (.mk k num nm ys p) := ⟨_,rfl⟩
  rw [← hR]
  rw [exV_mk] at hR
  unfold exO at hR
  obtain ⟨sn,hsn⟩ : ∃ sn,sn = strOf nm := ⟨_,rfl⟩
  obtain ⟨L,hL⟩ : ∃ L,L = ys.length := ⟨_,rfl⟩
  rw [← hL] at hcap
  have HX := Lib.hid hx
  have HSN := Lib.hid hsn
  have HL := Lib.hid hL
  rw [← hsn,← hL]
  have o1 : Only [] w (w.alloc (.cells #[.int .i64 k,.int .i64 num,.string sn,.slice a L cap,.int .i64 p] 70)) := (Only.refl _ _).alloc _
  have HY := Lib.hid (heap_new w (.cells #[.int .i64 k,.int .i64 num,.string sn,.slice a L cap,.int .i64 p] 70))
  obtain ⟨w1,hw1⟩ : ∃ w1,w1 = w.alloc (.cells #[.int .i64 k,.int .i64 num,.string sn,.slice a L cap,.int .i64 p] 70) := ⟨_,rfl⟩
  rw [← hw1] at o1 HY
  have HO1 := Lib.hid o1
  have HW := Lib.hid hw1
  have HH := Lib.hid (h.quiet o1)
  have HNM := Lib.hid hnm
  clear h hx hsn hL hN o1 hw1 hnm
  by_cases h2 : k = 2
  · subst h2
    have hRR : R = nmV s.m nm := by rw [hR,if_pos rfl]
    have HRR := Lib.hid hRR
    obtain ⟨cnt,hmap,-⟩ := HH.out.names
    have HM := Lib.hid hmap
    have y2 : w1.cell? ⟨w.heap.size,2,none⟩ = some (.string sn) := cell_at 2 HY.out
    have y61 := HH.out.map
    clear hR hRR hi hwl hgl hsz hmap
    go_enter Try.func22,Try.ntmps22
    go_upto_region 3 with (fail)
    rw [← HW.out]
    have oD : Only [] w1 w1.drew := (Only.refl [] w1).drew
    refine wp_region_held_drew (S := fun w' => w'.cell? ⟨w.heap.size,2,none⟩ = some (.string sn) ∧ w'.cell? ⟨g,61,none⟩ = some (.map (some b))) (by kernel_rfl) ⟨cell_kept oD y2 (by simp),cell_kept oD y61 (by simp)⟩ (fun hH => ?_)
    have HM2 := Lib.hid (HM.out.kept oD (by simp))
    have HO2 := Lib.hid (HO1.out.trans oD (by simp))
    clear oD y2 y61
    generalize w1.drew = wd at HM2 HO2 hH ⊢
    refine take_list (i := 0) (v := ?_) rfl (by kernel_rfl) (by kernel_rfl) (by kernel_rfl) (fun _ _ _ h => h) (Or.inl ⟨by rfl,?_⟩) hH ?_
    rotate_left
    · ((intro w hSw;(try dsimp only at hSw);go_simp);try with_reducible rfl)
    simp only [Act.put,List.setIfInBounds_toArray,List.set_cons_zero,List.set_cons_succ]
    refine take_list (i := 1) (v := ?_) rfl (by kernel_rfl) (by kernel_rfl) (by kernel_rfl) (fun _ _ _ h => h) (Or.inl ⟨by rfl,?_⟩) hH ?_
    rotate_left
    · ((intro w hSw;(try dsimp only at hSw);go_simp);try with_reducible rfl)
    simp only [Act.put,List.setIfInBounds_toArray,List.set_cons_zero,List.set_cons_succ]
    refine take_list (i := 2) (v := ?_) rfl (by kernel_rfl) (by kernel_rfl) (by kernel_rfl) (fun _ _ _ h => h) (Or.inl ⟨by rfl,?_⟩) hH ?_
    rotate_left
    · ((intro w hSw;(try dsimp only at hSw);go_simp);try with_reducible rfl)
    simp only [Act.put,List.setIfInBounds_toArray,List.set_cons_zero,List.set_cons_succ]
    refine take_list (i := 3) (v := ?_) rfl (by kernel_rfl) (by kernel_rfl) (by kernel_rfl) (fun _ _ _ h => h) (Or.inl ⟨by rfl,?_⟩) hH ?_
    rotate_left
    · ((intro w hSw;(try dsimp only at hSw);go_simp);try with_reducible rfl)
    simp only [Act.put,List.setIfInBounds_toArray,List.set_cons_zero,List.set_cons_succ]
    refine take_list (i := 4) (v := ?_) rfl (by kernel_rfl) (by kernel_rfl) (by kernel_rfl) (fun _ _ _ h => h) (Or.inl ⟨by rfl,?_⟩) hH ?_
    rotate_left
    · ((intro w hSw;(try dsimp only at hSw);go_simp);try with_reducible rfl)
    simp only [Act.put,List.setIfInBounds_toArray,List.set_cons_zero,List.set_cons_succ]
    refine take_list (i := 5) (v := ?_) rfl (by kernel_rfl) (by kernel_rfl) (by kernel_rfl) (fun _ _ _ h => h) (Or.inl ⟨by rfl,?_⟩) hH ?_
    rotate_left
    · ((intro w hSw;(try dsimp only at hSw);go_simp);try with_reducible rfl)
    simp only [Act.put,List.setIfInBounds_toArray,List.set_cons_zero,List.set_cons_succ]
    have KN := named_any HM2.out HNM.out
    rw [← HSN.out,← HRR.out] at KN
    refine wpAnyH_ready (rs := [6]) (by kernel_rfl) (by simp) ?_
    refine ready_list rfl (fun K hK => ?_)
    go_simp
    refine KN.mono ?_
    rintro e w3 ⟨⟨ok,rfl⟩,rfl⟩
    refine hK.out _ _ hH (fun hH => ?_)
    clear hK K KN
    refine take_list (i := 7) (v := ?_) rfl (by kernel_rfl) (by kernel_rfl) (by kernel_rfl) (fun _ _ _ h => h) (Or.inl ⟨by rfl,?_⟩) hH ?_
    rotate_left
    · ((intro w hSw;(try dsimp only at hSw);go_simp);try with_reducible rfl)
    simp only [Act.put,List.setIfInBounds_toArray,List.set_cons_zero,List.set_cons_succ]
    refine take_list (i := 8) (v := ?_) rfl (by kernel_rfl) (by kernel_rfl) (by kernel_rfl) (fun _ _ _ h => h) (Or.inl ⟨by rfl,?_⟩) hH ?_
    rotate_left
    · ((intro w hSw;(try dsimp only at hSw);go_simp);try with_reducible rfl)
    simp only [Act.put,List.setIfInBounds_toArray,List.set_cons_zero,List.set_cons_succ]
    refine take_list (i := 9) (v := ?_) rfl (by kernel_rfl) (by kernel_rfl) (by kernel_rfl) (fun _ _ _ h => h) (Or.inl ⟨by rfl,?_⟩) hH ?_
    rotate_left
    · ((intro w hSw;(try dsimp only at hSw);go_simp);try with_reducible rfl)
    simp only [Act.put,List.setIfInBounds_toArray,List.set_cons_zero,List.set_cons_succ]
    refine take_list (i := 10) (v := ?_) rfl (by kernel_rfl) (by kernel_rfl) (by kernel_rfl) (fun _ _ _ h => h) (Or.inl ⟨by rfl,?_⟩) hH ?_
    rotate_left
    · ((intro w hSw;(try dsimp only at hSw);go_simp);try with_reducible rfl)
    simp only [Act.put,List.setIfInBounds_toArray,List.set_cons_zero,List.set_cons_succ]
    refine take_list (i := 11) (v := ?_) rfl (by kernel_rfl) (by kernel_rfl) (by kernel_rfl) (fun _ _ _ h => h) (Or.inl ⟨by rfl,?_⟩) hH ?_
    rotate_left
    · ((intro w hSw;(try dsimp only at hSw);go_simp);try with_reducible rfl)
    simp only [Act.put,List.setIfInBounds_toArray,List.set_cons_zero,List.set_cons_succ]
    refine wpAnyH_done (by kernel_rfl) ?_ _
    clear hH
    go_wp2_with fail
    go_ret
    exact ⟨rfl,HO2.out⟩
  · by_cases h3 : k = 3
    · subst h3
      have hRR : R = getC s.c ((exVs s.c s.m ys).getD 0 0) := by rw [hR,if_neg (by decide),if_pos rfl]
      have hlen : ys.length = 1 := by rcases hi with hi | hi | hi <;> omega
      clear hR hi
      obtain ⟨y,rfl⟩ : ∃ y,ys = [y] := by
        rcases ys with _ | ⟨y,_ | ⟨z,zs⟩⟩
        · simp at hlen
        · exact ⟨y,rfl⟩
        · simp at hlen
      obtain ⟨gr,rfl,hgr,hes⟩ : ∃ gr,a = some ⟨gr,0,none⟩ ∧ B gr ∧ EsO w B gr 0 [y] := by
        rcases HX.out with hx | ⟨gr,h1,h2,h3⟩
        · cases hx
        · exact ⟨gr,h1,h2,EsAt.eso [y] 0 0 rfl h3⟩
      obtain ⟨k1,n1,sn1,a1,l1,c1,p1,hev1,hat1⟩ := hes.at5 (j := 0) rfl
      have hat := hat1.kept HO1.out (by simp)
      have hl1 : L = 1 := by rw [HL.out];rfl
      subst hl1
      have z0 : w1.cell? ⟨gr,0,none⟩ = some (.int .i64 k1) := hat.c0
      have z1 : w1.cell? ⟨gr,1,none⟩ = some (.int .i64 n1) := hat.c1
      have z2 : w1.cell? ⟨gr,2,none⟩ = some (.string sn1) := hat.c2
      have z3 : w1.cell? ⟨gr,3,none⟩ = some (.slice a1 l1 c1) := hat.c3
      have z4 : w1.cell? ⟨gr,4,none⟩ = some (.int .i64 p1) := hat.c4
      have y3 : w1.cell? ⟨w.heap.size,3,none⟩ = some (.slice (some ⟨gr,0,none⟩) 1 cap) := cell_at 3 HY.out
      have sy : sizeE y ≤ N := by have : sizeL [y] = sizeE y + 0 := by rw [sizeL_cons,sizeL_nil]
                                  omega
      have wy : wE y := by unfold wL at hwl;exact hwl.1
      have gy : gE y := by unfold gL at hgl;exact hgl.1
      have hev2 : EV w1 B y [.int .i64 k1,.int .i64 n1,.string sn1,.slice a1 l1 c1,.int .i64 p1] := hev1.quiet HO1.out
      have HG := Lib.hid gy
      have HWY := Lib.hid wy
      have HEV := Lib.hid hev2
      have KX := fun (w2 : World) (o2 : Only [] w1 w2) => IE y sy w2 g b LL C nn s _ B (HH.out.quiet o2) wy gy (hev2.quiet o2)
      rw [exVs_one] at hRR
      have HRR := Lib.hid hRR
      have HV := Lib.hid (exV_n64 HH.out.sw.1 HH.out.sw.2 y gy)
      generalize exV s.c s.m y = V at KX HRR HV
      have HKX := Lib.hid KX
      clear hRR hat hat1 hev1 hev2 hes sy hwl hgl wy gy KX
      go_enter Try.func22,Try.ntmps22
      go_upto_region 6 with (fail)
      rw [← HW.out]
      have oD : Only [] w1 w1.drew := (Only.refl [] w1).drew
      refine wp_region_held_drew (S := fun w' => RM w' g b LL C nn s ∧ w'.cell? ⟨w.heap.size,3,none⟩ = some (.slice (some ⟨gr,0,none⟩) 1 cap) ∧ w'.cell? ⟨gr,0,none⟩ = some (.int .i64 k1) ∧ w'.cell? ⟨gr,1,none⟩ = some (.int .i64 n1) ∧ w'.cell? ⟨gr,2,none⟩ = some (.string sn1) ∧ w'.cell? ⟨gr,3,none⟩ = some (.slice a1 l1 c1) ∧ w'.cell? ⟨gr,4,none⟩ = some (.int .i64 p1)) (by kernel_rfl) ⟨HH.out.quiet oD,cell_kept oD y3 (by simp),cell_kept oD z0 (by simp),cell_kept oD z1 (by simp),cell_kept oD z2 (by simp),cell_kept oD z3 (by simp),cell_kept oD z4 (by simp)⟩ (fun hH => ?_)
      have HO2 := Lib.hid oD
      clear oD y3 z0 z1 z2 z3 z4
      generalize w1.drew = wd at HO2 hH ⊢
      refine take_list (i := 0) (v := ?_) rfl (by kernel_rfl) (by kernel_rfl) (by kernel_rfl) (fun _ _ _ h => h) (Or.inl ⟨by rfl,?_⟩) hH ?_
      rotate_left
      · ((intro w hSw;(try dsimp only at hSw);go_simp);try with_reducible rfl)
      simp only [Act.put,List.setIfInBounds_toArray,List.set_cons_zero,List.set_cons_succ]
      refine take_list (i := 1) (v := ?_) rfl (by kernel_rfl) (by kernel_rfl) (by kernel_rfl) (fun _ _ _ h => h) (Or.inl ⟨by rfl,?_⟩) hH ?_
      rotate_left
      · ((intro w hSw;(try dsimp only at hSw);go_simp);try with_reducible rfl)
      simp only [Act.put,List.setIfInBounds_toArray,List.set_cons_zero,List.set_cons_succ]
      refine take_list (i := 2) (v := ?_) rfl (by kernel_rfl) (by kernel_rfl) (by kernel_rfl) (fun _ _ _ h => h) (Or.inl ⟨by rfl,?_⟩) hH ?_
      rotate_left
      · ((intro w hSw;(try dsimp only at hSw);go_simp);try with_reducible rfl)
      simp only [Act.put,List.setIfInBounds_toArray,List.set_cons_zero,List.set_cons_succ]
      refine take_list (i := 3) (v := .agg (ivA (nn :: s.c))) rfl (by kernel_rfl) (by kernel_rfl) (by kernel_rfl) (fun _ _ _ h => h) (Or.inl ⟨by rfl,fun w hw => exec_load_pg hw.1 _ _ _ rfl rfl⟩) hH ?_
      simp only [Act.put,List.setIfInBounds_toArray,List.set_cons_zero,List.set_cons_succ]
      refine take_list (i := 4) (v := ?_) rfl (by kernel_rfl) (by kernel_rfl) (by kernel_rfl) (fun _ _ _ h => h) (Or.inl ⟨by rfl,?_⟩) hH ?_
      rotate_left
      · ((intro w hSw;(try dsimp only at hSw);go_simp);try with_reducible rfl)
      simp only [Act.put,List.setIfInBounds_toArray,List.set_cons_zero,List.set_cons_succ]
      refine take_list (i := 5) (v := ?_) rfl (by kernel_rfl) (by kernel_rfl) (by kernel_rfl) (fun _ _ _ h => h) (Or.inl ⟨by rfl,?_⟩) hH ?_
      rotate_left
      · ((intro w hSw;(try dsimp only at hSw);go_simp);try with_reducible rfl)
      simp only [Act.put,List.setIfInBounds_toArray,List.set_cons_zero,List.set_cons_succ]
      refine take_list (i := 6) (v := ?_) rfl (by kernel_rfl) (by kernel_rfl) (by kernel_rfl) (fun _ _ _ h => h) (Or.inl ⟨by rfl,?_⟩) hH ?_
      rotate_left
      · ((intro w hSw;(try dsimp only at hSw);go_simp);try with_reducible rfl)
      simp only [Act.put,List.setIfInBounds_toArray,List.set_cons_zero,List.set_cons_succ]
      refine take_list (i := 7) (v := ?_) rfl (by kernel_rfl) (by kernel_rfl) (by kernel_rfl) (fun _ _ _ h => h) (Or.inl ⟨by rfl,?_⟩) hH ?_
      rotate_left
      · ((intro w hSw;(try dsimp only at hSw);go_simp);try with_reducible rfl)
      simp only [Act.put,List.setIfInBounds_toArray,List.set_cons_zero,List.set_cons_succ]
      refine take_list (i := 8) (v := ?_) rfl (by kernel_rfl) (by kernel_rfl) (by kernel_rfl) (fun _ _ _ h => h) (Or.inl ⟨by rfl,?_⟩) hH ?_
      rotate_left
      · ((intro w hSw;(try dsimp only at hSw);go_simp);try with_reducible rfl)
      simp only [Act.put,List.setIfInBounds_toArray,List.set_cons_zero,List.set_cons_succ]
      refine wpAnyH_ready (rs := [9]) (by kernel_rfl) (by simp) ?_
      refine ready_list rfl (fun K hK => ?_)
      go_simp
      refine (HKX.out wd HO2.out).mono ?_
      rintro e w3 ⟨rfl,o3⟩
      replace HO2 := Lib.hid (HO2.out.trans o3 (by simp))
      refine hK.out _ _ ⟨hH.1.quiet o3,cell_kept o3 hH.2.1 (by simp),cell_kept o3 hH.2.2.1 (by simp),cell_kept o3 hH.2.2.2.1 (by simp),cell_kept o3 hH.2.2.2.2.1 (by simp),cell_kept o3 hH.2.2.2.2.2.1 (by simp),cell_kept o3 hH.2.2.2.2.2.2 (by simp)⟩ (fun hH => ?_)
      clear hK K o3
      have HG2 := Lib.hid (Get_any hH.1.sw.1 nn V HV.out w3)
      rw [← HRR.out] at HG2
      refine wpAnyH_ready (rs := [10]) (by kernel_rfl) (by simp) ?_
      refine ready_list rfl (fun K hK => ?_)
      go_simp
      refine HG2.out.mono ?_
      rintro e w4 ⟨rfl,o4⟩
      replace HO2 := Lib.hid (HO2.out.trans o4 (by simp))
      refine hK.out _ _ ⟨hH.1.quiet o4,cell_kept o4 hH.2.1 (by simp),cell_kept o4 hH.2.2.1 (by simp),cell_kept o4 hH.2.2.2.1 (by simp),cell_kept o4 hH.2.2.2.2.1 (by simp),cell_kept o4 hH.2.2.2.2.2.1 (by simp),cell_kept o4 hH.2.2.2.2.2.2 (by simp)⟩ (fun hH => ?_)
      clear hK K o4 HG2
      refine take_list (i := 11) (v := ?_) rfl (by kernel_rfl) (by kernel_rfl) (by kernel_rfl) (fun _ _ _ h => h) (Or.inl ⟨by rfl,?_⟩) hH ?_
      rotate_left
      · ((intro w hSw;(try dsimp only at hSw);go_simp);try with_reducible rfl)
      simp only [Act.put,List.setIfInBounds_toArray,List.set_cons_zero,List.set_cons_succ]
      refine take_list (i := 12) (v := ?_) rfl (by kernel_rfl) (by kernel_rfl) (by kernel_rfl) (fun _ _ _ h => h) (Or.inl ⟨by rfl,?_⟩) hH ?_
      rotate_left
      · ((intro w hSw;(try dsimp only at hSw);go_simp);try with_reducible rfl)
      simp only [Act.put,List.setIfInBounds_toArray,List.set_cons_zero,List.set_cons_succ]
      refine take_list (i := 13) (v := ?_) rfl (by kernel_rfl) (by kernel_rfl) (by kernel_rfl) (fun _ _ _ h => h) (Or.inl ⟨by rfl,?_⟩) hH ?_
      rotate_left
      · ((intro w hSw;(try dsimp only at hSw);go_simp);try with_reducible rfl)
      simp only [Act.put,List.setIfInBounds_toArray,List.set_cons_zero,List.set_cons_succ]
      refine take_list (i := 14) (v := ?_) rfl (by kernel_rfl) (by kernel_rfl) (by kernel_rfl) (fun _ _ _ h => h) (Or.inl ⟨by rfl,?_⟩) hH ?_
      rotate_left
      · ((intro w hSw;(try dsimp only at hSw);go_simp);try with_reducible rfl)
      simp only [Act.put,List.setIfInBounds_toArray,List.set_cons_zero,List.set_cons_succ]
      refine take_list (i := 15) (v := ?_) rfl (by kernel_rfl) (by kernel_rfl) (by kernel_rfl) (fun _ _ _ h => h) (Or.inl ⟨by rfl,?_⟩) hH ?_
      rotate_left
      · ((intro w hSw;(try dsimp only at hSw);go_simp);try with_reducible rfl)
      simp only [Act.put,List.setIfInBounds_toArray,List.set_cons_zero,List.set_cons_succ]
      refine wpAnyH_done (by kernel_rfl) ?_ _
      clear hH
      go_wp2_with fail
      go_ret
      exact ⟨rfl,HO1.out.trans HO2.out (by simp)⟩
    · by_cases h4 : k = 4
      · subst h4
        have hRR : R = tr ((exVs s.c s.m ys).getD 0 0 = 0) := by rw [hR,if_neg (by decide),if_neg (by decide),if_pos rfl]
        have hlen : ys.length = 1 := by rcases hi with hi | hi | hi <;> omega
        clear hR hi
        obtain ⟨y,rfl⟩ : ∃ y,ys = [y] := by
          rcases ys with _ | ⟨y,_ | ⟨z,zs⟩⟩
          · simp at hlen
          · exact ⟨y,rfl⟩
          · simp at hlen
        obtain ⟨gr,rfl,hgr,hes⟩ : ∃ gr,a = some ⟨gr,0,none⟩ ∧ B gr ∧ EsO w B gr 0 [y] := by
          rcases HX.out with hx | ⟨gr,h1,h2,h3⟩
          · cases hx
          · exact ⟨gr,h1,h2,EsAt.eso [y] 0 0 rfl h3⟩
        obtain ⟨k1,n1,sn1,a1,l1,c1,p1,hev1,hat1⟩ := hes.at5 (j := 0) rfl
        have hat := hat1.kept HO1.out (by simp)
        have hl1 : L = 1 := by rw [HL.out];rfl
        subst hl1
        have z0 : w1.cell? ⟨gr,0,none⟩ = some (.int .i64 k1) := hat.c0
        have z1 : w1.cell? ⟨gr,1,none⟩ = some (.int .i64 n1) := hat.c1
        have z2 : w1.cell? ⟨gr,2,none⟩ = some (.string sn1) := hat.c2
        have z3 : w1.cell? ⟨gr,3,none⟩ = some (.slice a1 l1 c1) := hat.c3
        have z4 : w1.cell? ⟨gr,4,none⟩ = some (.int .i64 p1) := hat.c4
        have y3 : w1.cell? ⟨w.heap.size,3,none⟩ = some (.slice (some ⟨gr,0,none⟩) 1 cap) := cell_at 3 HY.out
        have sy : sizeE y ≤ N := by have : sizeL [y] = sizeE y + 0 := by rw [sizeL_cons,sizeL_nil]
                                    omega
        have wy : wE y := by unfold wL at hwl;exact hwl.1
        have gy : gE y := by unfold gL at hgl;exact hgl.1
        have hev2 : EV w1 B y [.int .i64 k1,.int .i64 n1,.string sn1,.slice a1 l1 c1,.int .i64 p1] := hev1.quiet HO1.out
        have HG := Lib.hid gy
        have HWY := Lib.hid wy
        have HEV := Lib.hid hev2
        have KX := fun (w2 : World) (o2 : Only [] w1 w2) => IE y sy w2 g b LL C nn s _ B (HH.out.quiet o2) wy gy (hev2.quiet o2)
        rw [exVs_one] at hRR
        have HRR := Lib.hid hRR
        have HV := Lib.hid (exV_n64 HH.out.sw.1 HH.out.sw.2 y gy)
        generalize exV s.c s.m y = V at KX HRR HV
        have HKX := Lib.hid KX
        clear hRR hat hat1 hev1 hev2 hes sy hwl hgl wy gy KX
        have hT : R = bI (V == 0) := by rw [HRR.out];unfold tr bI;simp
        have HT := Lib.hid hT
        clear hT
        go_enter Try.func22,Try.ntmps22
        go_upto_region 9 with (fail)
        rw [← HW.out]
        go_wp2_with fail
        refine (HKX.out w1 (Only.refl _ _)).mono ?_
        rintro e w3 ⟨rfl,o3⟩
        replace HO1 := Lib.hid (HO1.out.trans o3 (by simp))
        clear o3 y3 z0 z1 z2 z3 z4
        go_wp2_with fail
        refine (truth_any _ _).mono ?_
        rintro e w4 ⟨rfl,rfl⟩
        rw [← HT.out]
        go_wp2_with fail
        go_ret
        exact ⟨rfl,HO1.out⟩
      · by_cases h5 : k = 5
        · subst h5
          have hRR : R = wrap64 (-((exVs s.c s.m ys).getD 0 0)) := by rw [hR,if_neg (by decide),if_neg (by decide),if_neg (by decide),if_pos rfl]
          have hlen : ys.length = 1 := by rcases hi with hi | hi | hi <;> omega
          clear hR hi
          obtain ⟨y,rfl⟩ : ∃ y,ys = [y] := by
            rcases ys with _ | ⟨y,_ | ⟨z,zs⟩⟩
            · simp at hlen
            · exact ⟨y,rfl⟩
            · simp at hlen
          obtain ⟨gr,rfl,hgr,hes⟩ : ∃ gr,a = some ⟨gr,0,none⟩ ∧ B gr ∧ EsO w B gr 0 [y] := by
            rcases HX.out with hx | ⟨gr,h1,h2,h3⟩
            · cases hx
            · exact ⟨gr,h1,h2,EsAt.eso [y] 0 0 rfl h3⟩
          obtain ⟨k1,n1,sn1,a1,l1,c1,p1,hev1,hat1⟩ := hes.at5 (j := 0) rfl
          have hat := hat1.kept HO1.out (by simp)
          have hl1 : L = 1 := by rw [HL.out];rfl
          subst hl1
          have z0 : w1.cell? ⟨gr,0,none⟩ = some (.int .i64 k1) := hat.c0
          have z1 : w1.cell? ⟨gr,1,none⟩ = some (.int .i64 n1) := hat.c1
          have z2 : w1.cell? ⟨gr,2,none⟩ = some (.string sn1) := hat.c2
          have z3 : w1.cell? ⟨gr,3,none⟩ = some (.slice a1 l1 c1) := hat.c3
          have z4 : w1.cell? ⟨gr,4,none⟩ = some (.int .i64 p1) := hat.c4
          have y3 : w1.cell? ⟨w.heap.size,3,none⟩ = some (.slice (some ⟨gr,0,none⟩) 1 cap) := cell_at 3 HY.out
          have sy : sizeE y ≤ N := by have : sizeL [y] = sizeE y + 0 := by rw [sizeL_cons,sizeL_nil]
                                      omega
          have wy : wE y := by unfold wL at hwl;exact hwl.1
          have gy : gE y := by unfold gL at hgl;exact hgl.1
          have hev2 : EV w1 B y [.int .i64 k1,.int .i64 n1,.string sn1,.slice a1 l1 c1,.int .i64 p1] := hev1.quiet HO1.out
          have HG := Lib.hid gy
          have HWY := Lib.hid wy
          have HEV := Lib.hid hev2
          have KX := fun (w2 : World) (o2 : Only [] w1 w2) => IE y sy w2 g b LL C nn s _ B (HH.out.quiet o2) wy gy (hev2.quiet o2)
          rw [exVs_one] at hRR
          have HRR := Lib.hid hRR
          have HV := Lib.hid (exV_n64 HH.out.sw.1 HH.out.sw.2 y gy)
          generalize exV s.c s.m y = V at KX HRR HV
          have HKX := Lib.hid KX
          clear hRR hat hat1 hev1 hev2 hes sy hwl hgl wy gy KX
          go_enter Try.func22,Try.ntmps22
          go_upto_region 11 with (fail)
          rw [← HW.out]
          go_wp2_with fail
          refine (HKX.out w1 (Only.refl _ _)).mono ?_
          rintro e w3 ⟨rfl,o3⟩
          replace HO1 := Lib.hid (HO1.out.trans o3 (by simp))
          clear o3 y3 z0 z1 z2 z3 z4
          go_wp2_with fail
          go_ret
          rw [HRR.out]
          exact ⟨rfl,HO1.out⟩
        · by_cases h6 : k = 6
          · subst h6
            have hRR : R = opV nm ((exVs s.c s.m ys).getD 0 0) ((exVs s.c s.m ys).getD 1 0) := by rw [hR,if_neg (by decide),if_neg (by decide),if_neg (by decide),if_neg (by decide),if_pos rfl]
            obtain ⟨hlen,hop⟩ : ys.length = 2 ∧ (opr nm).2 ≠ 0 := by rcases hi with hi | hi | hi <;> omega
            have HOP := Lib.hid (show sn.data.toList ∈ ops7 by rw [show sn.data.toList = nm by rw [HSN.out];simp [strOf]];exact opr_mem hop)
            have HSD := Lib.hid (show sn.data.toList = nm by rw [HSN.out];simp [strOf])
            clear hR hi hop
            obtain ⟨y,z,rfl⟩ : ∃ y z,ys = [y,z] := by
              rcases ys with _ | ⟨y,_ | ⟨z,_ | ⟨u,us⟩⟩⟩
              · simp at hlen
              · simp at hlen
              · exact ⟨y,z,rfl⟩
              · simp at hlen
            obtain ⟨gr,rfl,hgr,hes⟩ : ∃ gr,a = some ⟨gr,0,none⟩ ∧ B gr ∧ EsO w B gr 0 [y,z] := by
              rcases HX.out with hx | ⟨gr,h1,h2,h3⟩
              · cases hx
              · exact ⟨gr,h1,h2,EsAt.eso [y,z] 0 0 rfl h3⟩
            obtain ⟨k1,n1,sn1,a1,l1,c1,p1,hev1,hat1⟩ := hes.at5 (j := 0) rfl
            obtain ⟨k2,n2,sn2,a2,l2,c2,p2,hev2,hat2⟩ := hes.at5 (j := 1) rfl
            have hl1 : L = 2 := by rw [HL.out];rfl
            subst hl1
            have q1 := hat1.kept HO1.out (by simp)
            have q2 := hat2.kept HO1.out (by simp)
            have y2 : w1.cell? ⟨w.heap.size,2,none⟩ = some (.string sn) := cell_at 2 HY.out
            have y3 : w1.cell? ⟨w.heap.size,3,none⟩ = some (.slice (some ⟨gr,0,none⟩) 2 cap) := cell_at 3 HY.out
            have hZ : w1.cell? ⟨w.heap.size,2,none⟩ = some (.string sn) ∧ w1.cell? ⟨w.heap.size,3,none⟩ = some (.slice (some ⟨gr,0,none⟩) 2 cap) ∧ w1.cell? ⟨gr,0,none⟩ = some (.int .i64 k1) ∧ w1.cell? ⟨gr,1,none⟩ = some (.int .i64 n1) ∧ w1.cell? ⟨gr,2,none⟩ = some (.string sn1) ∧ w1.cell? ⟨gr,3,none⟩ = some (.slice a1 l1 c1) ∧ w1.cell? ⟨gr,4,none⟩ = some (.int .i64 p1) ∧ w1.cell? ⟨gr,5,none⟩ = some (.int .i64 k2) ∧ w1.cell? ⟨gr,6,none⟩ = some (.int .i64 n2) ∧ w1.cell? ⟨gr,7,none⟩ = some (.string sn2) ∧ w1.cell? ⟨gr,8,none⟩ = some (.slice a2 l2 c2) ∧ w1.cell? ⟨gr,9,none⟩ = some (.int .i64 p2) :=
              ⟨y2,y3,q1.c0,q1.c1,q1.c2,q1.c3,q1.c4,q2.c0,q2.c1,q2.c2,q2.c3,q2.c4⟩
            have HZ := Lib.hid hZ
            have hsum : sizeE y + sizeE z ≤ N := by
              have : sizeL [y,z] = sizeE y + (sizeE z + 0) := by rw [sizeL_cons,sizeL_cons,sizeL_nil]
              omega
            have wy : wE y ∧ wE z := by unfold wL at hwl;unfold wL at hwl;exact ⟨hwl.1,hwl.2.1⟩
            have gy : gE y ∧ gE z := by unfold gL at hgl;unfold gL at hgl;exact ⟨hgl.1,hgl.2.1⟩
            have HEV1 := Lib.hid (hev1.quiet HO1.out)
            have HEV2 := Lib.hid (hev2.quiet HO1.out)
            have HKX := Lib.hid (fun (w2 : World) (o2 : Only [] w1 w2) => IE y (by omega) w2 g b LL C nn s _ B (HH.out.quiet o2) wy.1 gy.1 (HEV1.out.quiet o2))
            have HKY := Lib.hid (fun (w2 : World) (o2 : Only [] w1 w2) => IE z (by omega) w2 g b LL C nn s _ B (HH.out.quiet o2) wy.2 gy.2 (HEV2.out.quiet o2))
            rw [exVs_one,exVs_two] at hRR
            have HRR := Lib.hid hRR
            have HV := Lib.hid (exV_n64 HH.out.sw.1 HH.out.sw.2 z gy.2)
            generalize exV s.c s.m y = V1 at HKX HRR
            generalize exV s.c s.m z = V2 at HKY HRR HV
            clear hRR hat1 hat2 hev1 hev2 hes hlen hwl hgl wy gy q1 q2 y2 y3 hZ hsum hsz
            go_enter Try.func22,Try.ntmps22
            go_upto_region 13 with (fail)
            rw [← HW.out]
            have hZ := HZ.out
            have oD : Only [] w1 w1.drew := (Only.refl [] w1).drew
            refine wp_region_held_drew (S := fun w1 => w1.cell? ⟨w.heap.size,2,none⟩ = some (.string sn) ∧ w1.cell? ⟨w.heap.size,3,none⟩ = some (.slice (some ⟨gr,0,none⟩) 2 cap) ∧ w1.cell? ⟨gr,0,none⟩ = some (.int .i64 k1) ∧ w1.cell? ⟨gr,1,none⟩ = some (.int .i64 n1) ∧ w1.cell? ⟨gr,2,none⟩ = some (.string sn1) ∧ w1.cell? ⟨gr,3,none⟩ = some (.slice a1 l1 c1) ∧ w1.cell? ⟨gr,4,none⟩ = some (.int .i64 p1) ∧ w1.cell? ⟨gr,5,none⟩ = some (.int .i64 k2) ∧ w1.cell? ⟨gr,6,none⟩ = some (.int .i64 n2) ∧ w1.cell? ⟨gr,7,none⟩ = some (.string sn2) ∧ w1.cell? ⟨gr,8,none⟩ = some (.slice a2 l2 c2) ∧ w1.cell? ⟨gr,9,none⟩ = some (.int .i64 p2)) (by kernel_rfl) ⟨cell_kept oD hZ.1 (by simp),cell_kept oD hZ.2.1 (by simp),cell_kept oD hZ.2.2.1 (by simp),cell_kept oD hZ.2.2.2.1 (by simp),cell_kept oD hZ.2.2.2.2.1 (by simp),cell_kept oD hZ.2.2.2.2.2.1 (by simp),cell_kept oD hZ.2.2.2.2.2.2.1 (by simp),cell_kept oD hZ.2.2.2.2.2.2.2.1 (by simp),cell_kept oD hZ.2.2.2.2.2.2.2.2.1 (by simp),cell_kept oD hZ.2.2.2.2.2.2.2.2.2.1 (by simp),cell_kept oD hZ.2.2.2.2.2.2.2.2.2.2.1 (by simp),cell_kept oD hZ.2.2.2.2.2.2.2.2.2.2.2 (by simp)⟩ (fun hH => ?_)
            have HO2 := Lib.hid oD
            clear oD hZ
            generalize w1.drew = wd at HO2 hH ⊢
            refine take_list (i := 0) (v := ?_) rfl (by kernel_rfl) (by kernel_rfl) (by kernel_rfl) (fun _ _ _ h => h) (Or.inl ⟨by rfl,?_⟩) hH ?_
            rotate_left
            · ((intro w hSw;(try dsimp only at hSw);go_simp);try with_reducible rfl)
            simp only [Act.put,List.setIfInBounds_toArray,List.set_cons_zero,List.set_cons_succ]
            refine take_list (i := 1) (v := ?_) rfl (by kernel_rfl) (by kernel_rfl) (by kernel_rfl) (fun _ _ _ h => h) (Or.inl ⟨by rfl,?_⟩) hH ?_
            rotate_left
            · ((intro w hSw;(try dsimp only at hSw);go_simp);try with_reducible rfl)
            simp only [Act.put,List.setIfInBounds_toArray,List.set_cons_zero,List.set_cons_succ]
            refine take_list (i := 2) (v := ?_) rfl (by kernel_rfl) (by kernel_rfl) (by kernel_rfl) (fun _ _ _ h => h) (Or.inl ⟨by rfl,?_⟩) hH ?_
            rotate_left
            · ((intro w hSw;(try dsimp only at hSw);go_simp);try with_reducible rfl)
            simp only [Act.put,List.setIfInBounds_toArray,List.set_cons_zero,List.set_cons_succ]
            refine take_list (i := 3) (v := ?_) rfl (by kernel_rfl) (by kernel_rfl) (by kernel_rfl) (fun _ _ _ h => h) (Or.inl ⟨by rfl,?_⟩) hH ?_
            rotate_left
            · ((intro w hSw;(try dsimp only at hSw);go_simp);try with_reducible rfl)
            simp only [Act.put,List.setIfInBounds_toArray,List.set_cons_zero,List.set_cons_succ]
            refine take_list (i := 4) (v := ?_) rfl (by kernel_rfl) (by kernel_rfl) (by kernel_rfl) (fun _ _ _ h => h) (Or.inl ⟨by rfl,?_⟩) hH ?_
            rotate_left
            · ((intro w hSw;(try dsimp only at hSw);go_simp);try with_reducible rfl)
            simp only [Act.put,List.setIfInBounds_toArray,List.set_cons_zero,List.set_cons_succ]
            refine take_list (i := 5) (v := ?_) rfl (by kernel_rfl) (by kernel_rfl) (by kernel_rfl) (fun _ _ _ h => h) (Or.inl ⟨by rfl,?_⟩) hH ?_
            rotate_left
            · ((intro w hSw;(try dsimp only at hSw);go_simp);try with_reducible rfl)
            simp only [Act.put,List.setIfInBounds_toArray,List.set_cons_zero,List.set_cons_succ]
            refine take_list (i := 6) (v := ?_) rfl (by kernel_rfl) (by kernel_rfl) (by kernel_rfl) (fun _ _ _ h => h) (Or.inl ⟨by rfl,?_⟩) hH ?_
            rotate_left
            · ((intro w hSw;(try dsimp only at hSw);go_simp);try with_reducible rfl)
            simp only [Act.put,List.setIfInBounds_toArray,List.set_cons_zero,List.set_cons_succ]
            refine take_list (i := 8) (v := ?_) rfl (by kernel_rfl) (by kernel_rfl) (by kernel_rfl) (fun _ _ _ h => h) (Or.inl ⟨by rfl,?_⟩) hH ?_
            rotate_left
            · ((intro w hSw;(try dsimp only at hSw);go_simp);try with_reducible rfl)
            simp only [Act.put,List.setIfInBounds_toArray,List.set_cons_zero,List.set_cons_succ]
            refine take_list (i := 9) (v := ?_) rfl (by kernel_rfl) (by kernel_rfl) (by kernel_rfl) (fun _ _ _ h => h) (Or.inl ⟨by rfl,?_⟩) hH ?_
            rotate_left
            · ((intro w hSw;(try dsimp only at hSw);go_simp);try with_reducible rfl)
            simp only [Act.put,List.setIfInBounds_toArray,List.set_cons_zero,List.set_cons_succ]
            refine take_list (i := 10) (v := ?_) rfl (by kernel_rfl) (by kernel_rfl) (by kernel_rfl) (fun _ _ _ h => h) (Or.inl ⟨by rfl,?_⟩) hH ?_
            rotate_left
            · ((intro w hSw;(try dsimp only at hSw);go_simp);try with_reducible rfl)
            simp only [Act.put,List.setIfInBounds_toArray,List.set_cons_zero,List.set_cons_succ]
            refine take_list (i := 11) (v := ?_) rfl (by kernel_rfl) (by kernel_rfl) (by kernel_rfl) (fun _ _ _ h => h) (Or.inl ⟨by rfl,?_⟩) hH ?_
            rotate_left
            · ((intro w hSw;(try dsimp only at hSw);go_simp);try with_reducible rfl)
            simp only [Act.put,List.setIfInBounds_toArray,List.set_cons_zero,List.set_cons_succ]
            refine take_list (i := 12) (v := ?_) rfl (by kernel_rfl) (by kernel_rfl) (by kernel_rfl) (fun _ _ _ h => h) (Or.inl ⟨by rfl,?_⟩) hH ?_
            rotate_left
            · ((intro w hSw;(try dsimp only at hSw);go_simp);try with_reducible rfl)
            simp only [Act.put,List.setIfInBounds_toArray,List.set_cons_zero,List.set_cons_succ]
            refine wpAnyH_ready (rs := [7]) (by kernel_rfl) (by simp) ?_
            refine ready_list rfl (fun K hK => ?_)
            go_simp
            refine (HKX.out wd HO2.out).mono ?_
            rintro e w3 ⟨rfl,o3⟩
            replace HO2 := Lib.hid (HO2.out.trans o3 (by simp))
            refine hK.out _ _ ⟨cell_kept o3 hH.1 (by simp),cell_kept o3 hH.2.1 (by simp),cell_kept o3 hH.2.2.1 (by simp),cell_kept o3 hH.2.2.2.1 (by simp),cell_kept o3 hH.2.2.2.2.1 (by simp),cell_kept o3 hH.2.2.2.2.2.1 (by simp),cell_kept o3 hH.2.2.2.2.2.2.1 (by simp),cell_kept o3 hH.2.2.2.2.2.2.2.1 (by simp),cell_kept o3 hH.2.2.2.2.2.2.2.2.1 (by simp),cell_kept o3 hH.2.2.2.2.2.2.2.2.2.1 (by simp),cell_kept o3 hH.2.2.2.2.2.2.2.2.2.2.1 (by simp),cell_kept o3 hH.2.2.2.2.2.2.2.2.2.2.2 (by simp)⟩ (fun hH => ?_)
            clear hK K o3
            refine wpAnyH_ready (rs := [13]) (by kernel_rfl) (by simp) ?_
            refine ready_list rfl (fun K hK => ?_)
            go_simp
            refine (HKY.out w3 HO2.out).mono ?_
            rintro e w4 ⟨rfl,o3⟩
            replace HO2 := Lib.hid (HO2.out.trans o3 (by simp))
            refine hK.out _ _ ⟨cell_kept o3 hH.1 (by simp),cell_kept o3 hH.2.1 (by simp),cell_kept o3 hH.2.2.1 (by simp),cell_kept o3 hH.2.2.2.1 (by simp),cell_kept o3 hH.2.2.2.2.1 (by simp),cell_kept o3 hH.2.2.2.2.2.1 (by simp),cell_kept o3 hH.2.2.2.2.2.2.1 (by simp),cell_kept o3 hH.2.2.2.2.2.2.2.1 (by simp),cell_kept o3 hH.2.2.2.2.2.2.2.2.1 (by simp),cell_kept o3 hH.2.2.2.2.2.2.2.2.2.1 (by simp),cell_kept o3 hH.2.2.2.2.2.2.2.2.2.2.1 (by simp),cell_kept o3 hH.2.2.2.2.2.2.2.2.2.2.2 (by simp)⟩ (fun hH => ?_)
            clear hK K o3
            have KO := operate_any sn V1 V2 w4 HV.out HOP.out
            rw [HSD.out,← HRR.out] at KO
            refine wpAnyH_ready (rs := [14]) (by kernel_rfl) (by simp) ?_
            refine ready_list rfl (fun K hK => ?_)
            go_simp
            refine KO.mono ?_
            rintro e w5 ⟨rfl,rfl⟩
            refine hK.out _ _ hH (fun hH => ?_)
            clear hK K KO
            refine take_list (i := 15) (v := ?_) rfl (by kernel_rfl) (by kernel_rfl) (by kernel_rfl) (fun _ _ _ h => h) (Or.inl ⟨by rfl,?_⟩) hH ?_
            rotate_left
            · ((intro w hSw;(try dsimp only at hSw);go_simp);try with_reducible rfl)
            simp only [Act.put,List.setIfInBounds_toArray,List.set_cons_zero,List.set_cons_succ]
            refine take_list (i := 16) (v := ?_) rfl (by kernel_rfl) (by kernel_rfl) (by kernel_rfl) (fun _ _ _ h => h) (Or.inl ⟨by rfl,?_⟩) hH ?_
            rotate_left
            · ((intro w hSw;(try dsimp only at hSw);go_simp);try with_reducible rfl)
            simp only [Act.put,List.setIfInBounds_toArray,List.set_cons_zero,List.set_cons_succ]
            refine take_list (i := 17) (v := ?_) rfl (by kernel_rfl) (by kernel_rfl) (by kernel_rfl) (fun _ _ _ h => h) (Or.inl ⟨by rfl,?_⟩) hH ?_
            rotate_left
            · ((intro w hSw;(try dsimp only at hSw);go_simp);try with_reducible rfl)
            simp only [Act.put,List.setIfInBounds_toArray,List.set_cons_zero,List.set_cons_succ]
            refine take_list (i := 18) (v := ?_) rfl (by kernel_rfl) (by kernel_rfl) (by kernel_rfl) (fun _ _ _ h => h) (Or.inl ⟨by rfl,?_⟩) hH ?_
            rotate_left
            · ((intro w hSw;(try dsimp only at hSw);go_simp);try with_reducible rfl)
            simp only [Act.put,List.setIfInBounds_toArray,List.set_cons_zero,List.set_cons_succ]
            refine take_list (i := 19) (v := ?_) rfl (by kernel_rfl) (by kernel_rfl) (by kernel_rfl) (fun _ _ _ h => h) (Or.inl ⟨by rfl,?_⟩) hH ?_
            rotate_left
            · ((intro w hSw;(try dsimp only at hSw);go_simp);try with_reducible rfl)
            simp only [Act.put,List.setIfInBounds_toArray,List.set_cons_zero,List.set_cons_succ]
            refine wpAnyH_done (by kernel_rfl) ?_ _
            clear hH
            go_wp2_with fail
            go_ret
            exact ⟨rfl,HO1.out.trans HO2.out (by simp)⟩
          · have hRR : R = num := by rw [hR,if_neg h2,if_neg h3,if_neg h4,if_neg h5,if_neg h6]
            have HRR := Lib.hid hRR
            have e2 : (k == 2) = false := by simpa using h2
            have e3 : (k == 3) = false := by simpa using h3
            have e4 : (k == 4) = false := by simpa using h4
            have e5 : (k == 5) = false := by simpa using h5
            have e6 : (k == 6) = false := by simpa using h6
            have y1 : w1.cell? ⟨w.heap.size,1,none⟩ = some (.int .i64 num) := cell_at 1 HY.out
            clear hR hRR hi hwl hgl hsz
            go_enter Try.func22,Try.ntmps22
            go_upto_region 15 with (fail)
            rw [← HW.out]
            go_wp2_with fail
            go_ret
            rw [HRR.out]
            exact ⟨rfl,HO1.out⟩
theorem pexpr_all:∀ N,XP N
 | 0=>fun e he=>by cases e;unfold sizeE at he;omega
 | N+1=>pexpr_step N (pexpr_all N)
theorem pexpr_any {w:World} {g b:Nat} {L:List Sec} {C:Nat} {n:Int} {s:PS} {cs:List Value} {B:Nat→Prop} {e:E} (h:RM w g b L C n s) (hw:wE e) (hg:gE e) (hev:EV w B e cs) :
  Calls Try.prog 22 #[.pointer (some ⟨g,0,none⟩),.agg cs.toArray] w fun en w'=>en=.returned (.int .i64 (exV s.c s.m e))∧Only [] w w':=
 pexpr_all _ e (Nat.le_refl _) w g b L C n s cs B h hw hg hev
end Go.Proofs.Ytiaeagpepfmfgaa
namespace Go.Proofs.Ytiaeagpepfmfgaa
open Go.RowKit Go.Maps
set_option linter.unusedSimpArgs false
set_option linter.unusedVariables false
mutual
def inS (L:List Sec):St→Prop | .mk k nm _ _ bd els _=>(k=1∨k=7∨k=8→nm∈L)∧inB L bd∧inB L els
def inB (L:List Sec):List St→Prop | []=>True | x :: xs=>inS L x∧inB L xs
end
structure OkS (L:List Sec) (x:St):Prop where
 w:wS x
 g:gS x
 few:fewS x
 in_:inS L x
structure OkB (L:List Sec) (xs:List St):Prop where
 w:wB xs
 g:gB xs
 few:fewB xs
 in_:inB L xs
theorem OkB.cons {L:List Sec} {x:St} {xs:List St} (h:OkB L (x :: xs)):OkS L x∧OkB L xs:=by
 obtain ⟨h1,h2,h3,h4⟩:=h
 unfold wB at h1
 unfold gB at h2
 unfold fewB at h3
 unfold inB at h4
 exact ⟨⟨h1.1,h2.1,h3.1,h4.1⟩,⟨h1.2,h2.2,h3.2,h4.2⟩⟩
theorem OkB.mem {L:List Sec}:∀ {xs:List St} {j:Nat} {e:St},OkB L xs→xs[j]?=some e→OkS L e
 | [],j,e,_,h=>by simp at h
 | x :: xs,0,e,h,hj=>by simp at hj;subst hj;exact h.cons.1
 | x :: xs,j+1,e,h,hj=>OkB.mem h.cons.2 (by simpa using hj)
theorem OkS.parts {L:List Sec} {k:Int} {nm:Sec} {xs:List E} {n:Int} {bd els:List St} {p:Int} (h:OkS L (.mk k nm xs n bd els p)) :
  isS k xs.length n∧nm.length≤65536∧wL xs∧gL xs∧OkB L bd∧OkB L els∧(k=7∨k=8→0≤n∧n≤64)∧(k=1∨k=7∨k=8→nm∈L):=by
 obtain ⟨h1,h2,h3,h4⟩:=h
 unfold wS at h1
 unfold gS at h2
 unfold fewS at h3
 unfold inS at h4
 exact ⟨h1.1,h1.2.1,h1.2.2.1,h2.2.1,⟨h1.2.2.2.1,h2.2.2.1,h3.2.1,h4.2.1⟩,⟨h1.2.2.2.2,h2.2.2.2,h3.2.2,h4.2.2⟩,h3.1,h4.1⟩
theorem pgB_nil (s:PS):pgB [] s=s:=by unfold pgB;rfl
theorem pgB_cons (x:St) (xs:List St) (s:PS):pgB (x :: xs) s=pgB xs (pgS x s):=by conv=>lhs;unfold pgB
theorem pgB_drop {s:PS} {xs:List St} {j:Nat} {e:St} (hj:xs[j]?=some e):pgB (xs.drop j) s=pgB (xs.drop (j+1)) (pgS e s):=by
 obtain ⟨hlt,rfl⟩:=List.getElem?_eq_some_iff.1 hj
 rw [List.drop_eq_getElem_cons hlt,pgB_cons]
def SPr (N:Nat):Prop:=∀ (x:St),sizeS x≤N→∀ (w:World) (g b:Nat) (L:List Sec) (C:Nat) (n:Int) (s:PS) (cs:List Value) (B:Nat→Prop),RM w g b L C n s→OkS L x→SV w B x cs→¬ B g→¬ B b→
 Calls Try.prog 51 #[.pointer (some ⟨g,0,none⟩),.agg cs.toArray] w fun en w'=>en=.returned (.tuple #[])∧RM w' g b L C n (pgS x s)∧Only [g,b] w w'
def BPr (N:Nat):Prop:=∀ (xs:List St),sizeSs xs≤N→∀ (w:World) (g b:Nat) (L:List Sec) (C:Nat) (n:Int) (s:PS) (v:Value) (B:Nat→Prop),RM w g b L C n s→OkB L xs→SsV w B v xs→¬ B g→¬ B b→
 Calls Try.prog 23 #[.pointer (some ⟨g,0,none⟩),v] w fun en w'=>en=.returned (.tuple #[])∧RM w' g b L C n (pgB xs s)∧Only [g,b] w w'
theorem two_notB {B:Nat→Prop} {g b:Nat} (hg:¬ B g) (hb:¬ B b):∀ k∈[g,b],¬ B k:=by
 intro k hk
 simp only [List.mem_cons,List.not_mem_nil,or_false] at hk
 rcases hk with rfl | rfl
 ·exact hg
 ·exact hb
set_option maxRecDepth 100000 in
set_option maxHeartbeats 4000000 in
theorem pblock_step (N:Nat) (hNN:N≤1000000) (IS:SPr N):BPr N:=by
 intro xs hN w g b L C n s v B h hok hv hg hb
 obtain ⟨a,cap,rfl,-,hx⟩:=hv
 have hlen:=sizeSs_len xs
 have H:=Lib.hid h
 have HX:=Lib.hid hx
 have HOK:=Lib.hid hok
 have HB:=Lib.hid (two_notB hg hb)
 clear h hx hok
 go_enter Try.func23,Try.ntmps23
 go_wp2_with fail
 obtain ⟨m,hm⟩:∃ m,m=xs.length:=⟨_,rfl⟩
 rw [← hm] at hlen⊢
 have HM:=Lib.hid hm
 clear hm
 go_loopw [8] (fun ix wr=>∃ (j:Nat) (sj:PS),j≤m∧ix=.int .i64 (j:Int)∧Hid (pgB xs s=pgB (xs.drop j) sj)∧Hid (RM wr g b L C n sj)∧Hid (Only [g,b] w wr)) (fun ix _=>m - (intOf ix).toNat)
 case atStart=>exact ⟨0,s,Nat.zero_le _,rfl,Lib.hid (by rw [List.drop_zero]),H,Lib.hid (Only.refl _ _)⟩
 case round=>
  obtain ⟨j,sj,hjn,rfl,HT,HK,HO⟩:=hrel
  by_cases hlt:j < m
  ·have hlt':(j:Int) < (m:Int):=by omega
   have j0:(0:Int)≤(j:Int):=by omega
   obtain ⟨e,he⟩:∃ e,xs[j]?=some e:=⟨_,List.getElem?_eq_getElem (by rw [← HM.out];exact hlt)⟩
   obtain ⟨gr,rfl,hgr,hes⟩:∃ gr,a=some ⟨gr,0,none⟩∧B gr∧SsAt w B gr 0 xs:=by
    rcases HX.out with hx | hx
    ·rw [hx] at he;simp at he
    ·exact hx
   obtain ⟨cs,hev,hcs⟩:=SsAt.get xs 0 (SsAt.kept HO.out HB.out (fun _ h=>h) hgr 0 xs hes) j e he
   obtain ⟨k,nm,ys,nn,bd,els,p⟩:=e
   have hoke:=HOK.out.mem he
   have hev':=hev
   unfold SV at hev'
   obtain ⟨va,a1,c1,a2,c2,rfl,⟨a0,c0,rfl,-⟩,-,-⟩:=hev'
   have x0:wr.cell? ⟨gr,j*7,none⟩=some (.int .i64 k):=by simpa using hcs 0 _ rfl
   have x1:wr.cell? ⟨gr,j*7+1,none⟩=some (.string (strOf nm)):=by simpa using hcs 1 _ rfl
   have x2:wr.cell? ⟨gr,j*7+2,none⟩=some (.slice a0 ys.length c0):=by simpa using hcs 2 _ rfl
   have x3:wr.cell? ⟨gr,j*7+3,none⟩=some (.int .i64 nn):=by simpa using hcs 3 _ rfl
   have x4:wr.cell? ⟨gr,j*7+4,none⟩=some (.slice a1 bd.length c1):=by simpa using hcs 4 _ rfl
   have x5:wr.cell? ⟨gr,j*7+5,none⟩=some (.slice a2 els.length c2):=by simpa using hcs 5 _ rfl
   have x6:wr.cell? ⟨gr,j*7+6,none⟩=some (.int .i64 p):=by simpa using hcs 6 _ rfl
   obtain ⟨ee,hee⟩:∃ ee,ee=St.mk k nm ys nn bd els p:=⟨_,rfl⟩
   obtain ⟨sn,hsn⟩:∃ sn,sn=strOf nm:=⟨_,rfl⟩
   obtain ⟨L0,hL0⟩:∃ L,L=ys.length:=⟨_,rfl⟩
   obtain ⟨L1,hL1⟩:∃ L,L=bd.length:=⟨_,rfl⟩
   obtain ⟨L2,hL2⟩:∃ L,L=els.length:=⟨_,rfl⟩
   rw [← hee] at he hev hoke
   rw [← hsn] at x1 hev
   rw [← hL0] at x2 hev
   rw [← hL1] at x4 hev
   rw [← hL2] at x5 hev
   have HEV:=Lib.hid hev
   have HOKE:=Lib.hid hoke
   have hstep:=HT.out.trans (pgB_drop he)
   have HST:=Lib.hid hstep
   have hsz:sizeS ee≤N:=Nat.le_trans (sizeSs_mem he) hN
   clear hev hcs he hee hsn hL0 hL1 hL2 hes hoke hstep
   go_upto_region 3 with (fail)
   have o5:Only [] wr (wr.alloc (.cells #[.int .i64 k,.string sn,.slice a0 L0 c0,.int .i64 nn,.slice a1 L1 c1,.slice a2 L2 c2,.int .i64 p] 102)):=(Only.refl _ _).alloc _
   have hY:=heap_new wr (.cells #[.int .i64 k,.string sn,.slice a0 L0 c0,.int .i64 nn,.slice a1 L1 c1,.slice a2 L2 c2,.int .i64 p] 102)
   generalize wr.alloc (.cells #[.int .i64 k,.string sn,.slice a0 L0 c0,.int .i64 nn,.slice a1 L1 c1,.slice a2 L2 c2,.int .i64 p] 102)=w5 at o5 hY⊢
   have KX:=IS ee hsz w5 g b L C n sj _ B (HK.out.quiet o5) HOKE.out (SV.kept o5 (by simp) (fun _ h=>h) ee _ HEV.out) hg hb
   have HO5:=Lib.hid (HO.out.trans o5 (by simp))
   have y0:w5.cell? ⟨wr.heap.size,0,none⟩=some (.int .i64 k):=cell_at 0 hY
   have y1:w5.cell? ⟨wr.heap.size,1,none⟩=some (.string sn):=cell_at 1 hY
   have y2:w5.cell? ⟨wr.heap.size,2,none⟩=some (.slice a0 L0 c0):=cell_at 2 hY
   have y3:w5.cell? ⟨wr.heap.size,3,none⟩=some (.int .i64 nn):=cell_at 3 hY
   have y4:w5.cell? ⟨wr.heap.size,4,none⟩=some (.slice a1 L1 c1):=cell_at 4 hY
   have y5:w5.cell? ⟨wr.heap.size,5,none⟩=some (.slice a2 L2 c2):=cell_at 5 hY
   have y6:w5.cell? ⟨wr.heap.size,6,none⟩=some (.int .i64 p):=cell_at 6 hY
   clear o5 hY x0 x1 x2 x3 x4 x5 x6
   go_wp2_with fail
   refine KX.mono ?_
   rintro en w8 ⟨rfl,hk8,ho8⟩
   have HK8:=Lib.hid hk8
   have HO8:=Lib.hid (HO5.out.trans ho8 (fun k hk=>.inl hk))
   clear hk8 ho8 KX y0 y1 y2 y3 y4 y5 y6
   go_wp2_with fail
   refine ⟨⟨j+1,_,by omega,by go_num,HST,HK8,HO8⟩,?_⟩
   simp [intOf]
   omega
  ·obtain rfl:j=m:=by omega
   have hR:pgB xs s=sj:=by rw [HT.out,HM.out,List.drop_length,pgB_nil]
   have HR2:=Lib.hid hR
   clear hR
   go_wp2_with fail
   go_end0
   rw [HR2.out]
   exact ⟨rfl,HK.out,HO.out⟩
end Go.Proofs.Ytiaeagpepfmfgaa
namespace Go.Proofs.Ytiaeagpepfmfgaa
open Go.RowKit Go.Maps
set_option linter.unusedSimpArgs false
set_option linter.unusedVariables false
set_option maxRecDepth 100000 in
set_option maxHeartbeats 4000000 in
theorem pround_any (N:Nat) (IB:BPr N) {w:World} {g b:Nat} {L:List Sec} {C:Nat} {n:Int} {s:PS} {cs:List Value} {B:Nat→Prop} {k:Int} {nm:Sec} {ys:List E} {nn:Int} {bd els:List St} {p:Int}
  (hsz:sizeSs bd≤N) (h:RM w g b L C n s) (hok:OkB L bd) (hnm:nm.length≤65536) (hin:nm∈L) (hev:SV w B (.mk k nm ys nn bd els p) cs) (hg:¬ B g) (hb:¬ B b) (i:Int) (hi:n64 i) :
  Calls Try.prog 71 #[.pointer (some ⟨g,0,none⟩),.agg cs.toArray,.int .i64 i] w fun en w'=>en=.returned (.tuple #[])∧RM w' g b L C n (pgB bd ⟨s.c,nput s.m nm i⟩)∧Only [g,b] w w':=by
 unfold SV at hev
 obtain ⟨va,a1,c1,a2,c2,rfl,⟨a0,c0,rfl,-⟩,hbd,-⟩:=hev
 have hv:SsV w B (.slice a1 bd.length c1) bd:=⟨a1,c1,rfl,hbd⟩
 obtain ⟨sn,hsn⟩:∃ sn,sn=strOf nm:=⟨_,rfl⟩
 obtain ⟨L0,hL0⟩:∃ L,L=ys.length:=⟨_,rfl⟩
 obtain ⟨L1,hL1⟩:∃ L,L=bd.length:=⟨_,rfl⟩
 obtain ⟨L2,hL2⟩:∃ L,L=els.length:=⟨_,rfl⟩
 rw [← hsn,← hL0,← hL1,← hL2]
 rw [← hL1] at hv
 have HV:=Lib.hid hv
 have H:=Lib.hid h
 have HOK:=Lib.hid hok
 have HSN:=Lib.hid hsn
 have HIN:=Lib.hid hin
 have HI:=Lib.hid hi
 clear hbd hv h hok hsn hL0 hL1 hL2 hin hi
 go_enter Try.func71,Try.ntmps71
 go_upto_region 1 with (fail)
 have o5:Only [] w (w.alloc (.cells #[.int .i64 k,.string sn,.slice a0 L0 c0,.int .i64 nn,.slice a1 L1 c1,.slice a2 L2 c2,.int .i64 p] 102)):=(Only.refl _ _).alloc _
 have hY:=heap_new w (.cells #[.int .i64 k,.string sn,.slice a0 L0 c0,.int .i64 nn,.slice a1 L1 c1,.slice a2 L2 c2,.int .i64 p] 102)
 generalize w.alloc (.cells #[.int .i64 k,.string sn,.slice a0 L0 c0,.int .i64 nn,.slice a1 L1 c1,.slice a2 L2 c2,.int .i64 p] 102)=w1 at o5 hY⊢
 have oD:=o5.drew
 have hY':=(Only.refl [] w1).drew.heap hY (by simp)
 have hR:=H.out.quiet oD
 obtain ⟨cnt,hmap,hcnt⟩:=hR.names
 have hlim:=hR.lim
 have y1:w1.drew.cell? ⟨w.heap.size,1,none⟩=some (.string sn):=cell_at 1 hY'
 have y4:w1.drew.cell? ⟨w.heap.size,4,none⟩=some (.slice a1 L1 c1):=cell_at 4 hY'
 have y61:=hR.map
 have hwb:w.heap.size≠b:=by have:=H.out.b_lt;omega
 refine wp_region_held_drew (S:=fun w'=>w'.cell? ⟨w.heap.size,1,none⟩=some (.string sn)∧w'.cell? ⟨g,61,none⟩=some (.map (some b))) (by kernel_rfl) ⟨y1,y61⟩ (fun hH=>?_)
 have HR:=Lib.hid hR
 have HM:=Lib.hid hmap
 have HO:=Lib.hid oD
 clear o5 hY hY' hR hmap oD y1 y61
 generalize w1.drew=wd at HR HM HO y4 hH⊢
 refine take_list (i:=0) (v:=?_) rfl (by kernel_rfl) (by kernel_rfl) (by kernel_rfl) (fun _ _ _ h=>h) (Or.inl ⟨by rfl,?_⟩) hH ?_
 rotate_left
 ·((intro w hSw;(try dsimp only at hSw);go_simp);try with_reducible rfl)
 simp only [Act.put,List.setIfInBounds_toArray,List.set_cons_zero,List.set_cons_succ]
 refine take_list (i:=1) (v:=?_) rfl (by kernel_rfl) (by kernel_rfl) (by kernel_rfl) (fun _ _ _ h=>h) (Or.inl ⟨by rfl,?_⟩) hH ?_
 rotate_left
 ·((intro w hSw;(try dsimp only at hSw);go_simp);try with_reducible rfl)
 simp only [Act.put,List.setIfInBounds_toArray,List.set_cons_zero,List.set_cons_succ]
 refine take_list (i:=2) (v:=?_) rfl (by kernel_rfl) (by kernel_rfl) (by kernel_rfl) (fun _ _ _ h=>h) (Or.inl ⟨by rfl,?_⟩) hH ?_
 rotate_left
 ·((intro w hSw;(try dsimp only at hSw);go_simp);try with_reducible rfl)
 simp only [Act.put,List.setIfInBounds_toArray,List.set_cons_zero,List.set_cons_succ]
 refine take_list (i:=3) (v:=?_) rfl (by kernel_rfl) (by kernel_rfl) (by kernel_rfl) (fun _ _ _ h=>h) (Or.inl ⟨by rfl,?_⟩) hH ?_
 rotate_left
 ·((intro w hSw;(try dsimp only at hSw);go_simp);try with_reducible rfl)
 simp only [Act.put,List.setIfInBounds_toArray,List.set_cons_zero,List.set_cons_succ]
 refine take_list (i:=4) (v:=?_) rfl (by kernel_rfl) (by kernel_rfl) (by kernel_rfl) (fun _ _ _ h=>h) (Or.inl ⟨by rfl,?_⟩) hH ?_
 rotate_left
 ·((intro w hSw;(try dsimp only at hSw);go_simp);try with_reducible rfl)
 simp only [Act.put,List.setIfInBounds_toArray,List.set_cons_zero,List.set_cons_succ]
 refine take_list (i:=5) (v:=?_) rfl (by kernel_rfl) (by kernel_rfl) (by kernel_rfl) (fun _ _ _ h=>h) (Or.inl ⟨by rfl,?_⟩) hH ?_
 rotate_left
 ·((intro w hSw;(try dsimp only at hSw);go_simp);try with_reducible rfl)
 simp only [Act.put,List.setIfInBounds_toArray,List.set_cons_zero,List.set_cons_succ]
 refine take_list (i:=6) (v:=?_) rfl (by kernel_rfl) (by kernel_rfl) (by kernel_rfl) (fun _ _ _ h=>h) (Or.inl ⟨by rfl,?_⟩) hH ?_
 rotate_left
 ·((intro w hSw;(try dsimp only at hSw);go_simp);try with_reducible rfl)
 simp only [Act.put,List.setIfInBounds_toArray,List.set_cons_zero,List.set_cons_succ]
 refine wpAnyH_ready (rs:=[7]) (by kernel_rfl) (by simp) ?_
 refine ready_list rfl (fun K hK=>?_)
 refine step_nmap_store (by rfl) (.tmp 9) (.tmp 11) (.tmp 12) (by rfl) Try.underlying66 Try.underlying3 (by rfl) HM.out (by omega) nm (by rw [← HSN.out];rfl) hnm i (by rfl) (n64_wf HI.out) (fun w2 hm2 o2=>?_)
 have HR2:=Lib.hid (HR.out.put HIN.out HI.out hcnt hm2 o2)
 have HO2:=Lib.hid ((HO.out.mono (T:=[b]) (by simp)).trans o2 (fun k hk=>.inl hk))
 have y4':=cell_kept o2 y4 (by simpa using hwb)
 refine hK.out _ _ ⟨cell_kept o2 hH.1 (by simpa using hwb),cell_kept o2 hH.2 (by simpa using HR.out.ne.symm)⟩ (fun hH=>?_)
 have hv2:SsV w2 B (.slice a1 L1 c1) bd:=(HV.out.kept HO2.out (by simpa using hb) (fun _ h=>h))
 have KX:=IB bd hsz w2 g b L C n _ _ B HR2.out HOK.out hv2 hg hb
 clear hK K y4 o2 hm2 HM
 refine wpAnyH_done (by kernel_rfl) ?_ _
 clear hH
 go_wp2_with fail
 refine KX.mono ?_
 rintro en w3 ⟨rfl,hk3,ho3⟩
 have HK3:=Lib.hid hk3
 have HO3:=Lib.hid ((HO2.out.mono (T:=[g,b]) (by simp)).trans ho3 (fun k hk=>.inl hk))
 clear hk3 ho3 KX y4'
 go_wp2_with fail
 go_end0
 exact ⟨rfl,HK3.out,HO3.out⟩
set_option maxRecDepth 100000 in
set_option maxHeartbeats 16000000 in
theorem pstmt_step (N:Nat) (IB:BPr N):SPr (N+1):=by
 intro x hN w g b L C n s cs B h hok hev hg hb
 obtain ⟨k,nm,ys,nn,bd,els,p⟩:=x
 obtain ⟨hi,hnm,hwl,hgl,okb,oke,hfew,hin⟩:=hok.parts
 have hs1:sizeSs bd≤N∧sizeSs els≤N:=by unfold sizeS at hN;omega
 have hev0:=hev
 unfold SV at hev
 obtain ⟨va,a1,c1,a2,c2,rfl,⟨a0,c0,rfl,-,hx⟩,hbd,hels⟩:=hev
 have hvb:SsV w B (.slice a1 bd.length c1) bd:=⟨a1,c1,rfl,hbd⟩
 have hve:SsV w B (.slice a2 els.length c2) els:=⟨a2,c2,rfl,hels⟩
 obtain ⟨R,hR⟩:∃ R,R=pgS (.mk k nm ys nn bd els p) s:=⟨_,rfl⟩
 rw [← hR]
 unfold pgS at hR
 obtain ⟨sn,hsn⟩:∃ sn,sn=strOf nm:=⟨_,rfl⟩
 obtain ⟨L0,hL0⟩:∃ L,L=ys.length:=⟨_,rfl⟩
 obtain ⟨L1,hL1⟩:∃ L,L=bd.length:=⟨_,rfl⟩
 obtain ⟨L2,hL2⟩:∃ L,L=els.length:=⟨_,rfl⟩
 rw [← hsn,← hL0,← hL1,← hL2] at hev0⊢
 rw [← hL1] at hvb
 rw [← hL2] at hve
 have HX:=Lib.hid hx
 have HVB:=Lib.hid hvb
 have HVE:=Lib.hid hve
 have HSV:=Lib.hid hev0
 have HSN:=Lib.hid hsn
 have HL0:=Lib.hid hL0
 have o1:Only [] w (w.alloc (.cells #[.int .i64 k,.string sn,.slice a0 L0 c0,.int .i64 nn,.slice a1 L1 c1,.slice a2 L2 c2,.int .i64 p] 102)):=(Only.refl _ _).alloc _
 have HY:=Lib.hid (heap_new w (.cells #[.int .i64 k,.string sn,.slice a0 L0 c0,.int .i64 nn,.slice a1 L1 c1,.slice a2 L2 c2,.int .i64 p] 102))
 obtain ⟨w1,hw1⟩:∃ w1,w1=w.alloc (.cells #[.int .i64 k,.string sn,.slice a0 L0 c0,.int .i64 nn,.slice a1 L1 c1,.slice a2 L2 c2,.int .i64 p] 102):=⟨_,rfl⟩
 rw [← hw1] at o1 HY
 have HO1:=Lib.hid o1
 have HW:=Lib.hid hw1
 have HH:=Lib.hid (h.quiet o1)
 have hwg:w.heap.size≠g:=by have:=h.g_lt;omega
 have hwb:w.heap.size≠b:=by have:=h.b_lt;omega
 clear h hx hsn hL0 hL1 hL2 hN o1 hw1 hok hbd hels hvb hve hev0
 by_cases h1:k=1
 ·subst h1
  rw [if_pos rfl] at hR
  have hlen:ys.length=1:=by rcases hi with hi | hi | hi<;>omega
  clear hi
  obtain ⟨y,rfl⟩:∃ y,ys=[y]:=by
   rcases ys with _ | ⟨y,_ | ⟨z,zs⟩⟩
   ·simp at hlen
   ·exact ⟨y,rfl⟩
   ·simp at hlen
  obtain ⟨gr,rfl,hgr,hes⟩:∃ gr,a0=some ⟨gr,0,none⟩∧B gr∧EsO w B gr 0 [y]:=by
   rcases HX.out with hx | ⟨gr,h1,h2,h3⟩
   ·cases hx
   ·exact ⟨gr,h1,h2,EsAt.eso [y] 0 0 rfl h3⟩
  obtain ⟨k1,n1,sn1,b1,l1,d1,p1,hev1,hat1⟩:=hes.at5 (j:=0) rfl
  have hat:=hat1.kept HO1.out (by simp)
  have hl1:L0=1:=by rw [HL0.out];rfl
  subst hl1
  have z0:w1.cell? ⟨gr,0,none⟩=some (.int .i64 k1):=hat.c0
  have z1:w1.cell? ⟨gr,1,none⟩=some (.int .i64 n1):=hat.c1
  have z2:w1.cell? ⟨gr,2,none⟩=some (.string sn1):=hat.c2
  have z3:w1.cell? ⟨gr,3,none⟩=some (.slice b1 l1 d1):=hat.c3
  have z4:w1.cell? ⟨gr,4,none⟩=some (.int .i64 p1):=hat.c4
  have y1:w1.cell? ⟨w.heap.size,1,none⟩=some (.string sn):=cell_at 1 HY.out
  have y2:w1.cell? ⟨w.heap.size,2,none⟩=some (.slice (some ⟨gr,0,none⟩) 1 c0):=cell_at 2 HY.out
  have wy:wE y:=by unfold wL at hwl;exact hwl.1
  have gy:gE y:=by unfold gL at hgl;exact hgl.1
  have hev2:EV w1 B y [.int .i64 k1,.int .i64 n1,.string sn1,.slice b1 l1 d1,.int .i64 p1]:=hev1.quiet HO1.out
  have KX:=fun (w2:World) (o2:Only [] w1 w2)=>pexpr_any (HH.out.quiet o2) wy gy (hev2.quiet o2)
  rw [exVs_one] at hR
  have HR:=Lib.hid hR
  have HV:=Lib.hid (exV_n64 HH.out.sw.1 HH.out.sw.2 y gy)
  generalize exV s.c s.m y=V at KX HR HV
  have HKX:=Lib.hid KX
  have hgb:gr≠b:=fun e=>hb (e ▸ hgr)
  have hgg:gr≠g:=fun e=>hg (e ▸ hgr)
  clear hR hat hat1 hev1 hev2 hes hwl hgl wy gy KX
  obtain ⟨cnt,hmap,hcnt⟩:=HH.out.names
  have hlim:=HH.out.lim
  have y61:=HH.out.map
  go_enter Try.func51,Try.ntmps51
  go_upto_region 4 with (fail)
  rw [← HW.out]
  have oD:Only [] w1 w1.drew:=(Only.refl [] w1).drew
  refine wp_region_held_drew (S:=fun w1=>w1.cell? ⟨w.heap.size,1,none⟩=some (.string sn)∧w1.cell? ⟨w.heap.size,2,none⟩=some (.slice (some ⟨gr,0,none⟩) 1 c0)∧w1.cell? ⟨g,61,none⟩=some (.map (some b))∧w1.cell? ⟨gr,0,none⟩=some (.int .i64 k1)∧w1.cell? ⟨gr,1,none⟩=some (.int .i64 n1)∧w1.cell? ⟨gr,2,none⟩=some (.string sn1)∧w1.cell? ⟨gr,3,none⟩=some (.slice b1 l1 d1)∧w1.cell? ⟨gr,4,none⟩=some (.int .i64 p1)) (by kernel_rfl) ⟨cell_kept oD y1 (by simp),cell_kept oD y2 (by simp),cell_kept oD y61 (by simp),cell_kept oD z0 (by simp),cell_kept oD z1 (by simp),cell_kept oD z2 (by simp),cell_kept oD z3 (by simp),cell_kept oD z4 (by simp)⟩ (fun hH=>?_)
  have HO2:=Lib.hid oD
  have HM:=Lib.hid hmap
  clear oD y1 y2 y61 z0 z1 z2 z3 z4 hmap
  generalize w1.drew=wd at HO2 hH⊢
  refine take_list (i:=0) (v:=?_) rfl (by kernel_rfl) (by kernel_rfl) (by kernel_rfl) (fun _ _ _ h=>h) (Or.inl ⟨by rfl,?_⟩) hH ?_
  rotate_left
  ·((intro w hSw;(try dsimp only at hSw);go_simp);try with_reducible rfl)
  simp only [Act.put,List.setIfInBounds_toArray,List.set_cons_zero,List.set_cons_succ]
  refine take_list (i:=1) (v:=?_) rfl (by kernel_rfl) (by kernel_rfl) (by kernel_rfl) (fun _ _ _ h=>h) (Or.inl ⟨by rfl,?_⟩) hH ?_
  rotate_left
  ·((intro w hSw;(try dsimp only at hSw);go_simp);try with_reducible rfl)
  simp only [Act.put,List.setIfInBounds_toArray,List.set_cons_zero,List.set_cons_succ]
  refine take_list (i:=2) (v:=?_) rfl (by kernel_rfl) (by kernel_rfl) (by kernel_rfl) (fun _ _ _ h=>h) (Or.inl ⟨by rfl,?_⟩) hH ?_
  rotate_left
  ·((intro w hSw;(try dsimp only at hSw);go_simp);try with_reducible rfl)
  simp only [Act.put,List.setIfInBounds_toArray,List.set_cons_zero,List.set_cons_succ]
  refine take_list (i:=3) (v:=?_) rfl (by kernel_rfl) (by kernel_rfl) (by kernel_rfl) (fun _ _ _ h=>h) (Or.inl ⟨by rfl,?_⟩) hH ?_
  rotate_left
  ·((intro w hSw;(try dsimp only at hSw);go_simp);try with_reducible rfl)
  simp only [Act.put,List.setIfInBounds_toArray,List.set_cons_zero,List.set_cons_succ]
  refine take_list (i:=4) (v:=?_) rfl (by kernel_rfl) (by kernel_rfl) (by kernel_rfl) (fun _ _ _ h=>h) (Or.inl ⟨by rfl,?_⟩) hH ?_
  rotate_left
  ·((intro w hSw;(try dsimp only at hSw);go_simp);try with_reducible rfl)
  simp only [Act.put,List.setIfInBounds_toArray,List.set_cons_zero,List.set_cons_succ]
  refine take_list (i:=5) (v:=?_) rfl (by kernel_rfl) (by kernel_rfl) (by kernel_rfl) (fun _ _ _ h=>h) (Or.inl ⟨by rfl,?_⟩) hH ?_
  rotate_left
  ·((intro w hSw;(try dsimp only at hSw);go_simp);try with_reducible rfl)
  simp only [Act.put,List.setIfInBounds_toArray,List.set_cons_zero,List.set_cons_succ]
  refine take_list (i:=6) (v:=?_) rfl (by kernel_rfl) (by kernel_rfl) (by kernel_rfl) (fun _ _ _ h=>h) (Or.inl ⟨by rfl,?_⟩) hH ?_
  rotate_left
  ·((intro w hSw;(try dsimp only at hSw);go_simp);try with_reducible rfl)
  simp only [Act.put,List.setIfInBounds_toArray,List.set_cons_zero,List.set_cons_succ]
  refine take_list (i:=7) (v:=?_) rfl (by kernel_rfl) (by kernel_rfl) (by kernel_rfl) (fun _ _ _ h=>h) (Or.inl ⟨by rfl,?_⟩) hH ?_
  rotate_left
  ·((intro w hSw;(try dsimp only at hSw);go_simp);try with_reducible rfl)
  simp only [Act.put,List.setIfInBounds_toArray,List.set_cons_zero,List.set_cons_succ]
  refine take_list (i:=8) (v:=?_) rfl (by kernel_rfl) (by kernel_rfl) (by kernel_rfl) (fun _ _ _ h=>h) (Or.inl ⟨by rfl,?_⟩) hH ?_
  rotate_left
  ·((intro w hSw;(try dsimp only at hSw);go_simp);try with_reducible rfl)
  simp only [Act.put,List.setIfInBounds_toArray,List.set_cons_zero,List.set_cons_succ]
  refine take_list (i:=9) (v:=?_) rfl (by kernel_rfl) (by kernel_rfl) (by kernel_rfl) (fun _ _ _ h=>h) (Or.inl ⟨by rfl,?_⟩) hH ?_
  rotate_left
  ·((intro w hSw;(try dsimp only at hSw);go_simp);try with_reducible rfl)
  simp only [Act.put,List.setIfInBounds_toArray,List.set_cons_zero,List.set_cons_succ]
  refine take_list (i:=10) (v:=?_) rfl (by kernel_rfl) (by kernel_rfl) (by kernel_rfl) (fun _ _ _ h=>h) (Or.inl ⟨by rfl,?_⟩) hH ?_
  rotate_left
  ·((intro w hSw;(try dsimp only at hSw);go_simp);try with_reducible rfl)
  simp only [Act.put,List.setIfInBounds_toArray,List.set_cons_zero,List.set_cons_succ]
  refine wpAnyH_ready (rs:=[11]) (by kernel_rfl) (by simp) ?_
  refine ready_list rfl (fun K hK=>?_)
  go_simp
  refine (HKX.out wd HO2.out).mono ?_
  rintro e w3 ⟨rfl,o3⟩
  replace HO2:=Lib.hid (HO2.out.trans o3 (by simp))
  refine hK.out _ _ ⟨cell_kept o3 hH.1 (by simp),cell_kept o3 hH.2.1 (by simp),cell_kept o3 hH.2.2.1 (by simp),cell_kept o3 hH.2.2.2.1 (by simp),cell_kept o3 hH.2.2.2.2.1 (by simp),cell_kept o3 hH.2.2.2.2.2.1 (by simp),cell_kept o3 hH.2.2.2.2.2.2.1 (by simp),cell_kept o3 hH.2.2.2.2.2.2.2 (by simp)⟩ (fun hH=>?_)
  clear hK K o3
  refine wpAnyH_ready (rs:=[12]) (by kernel_rfl) (by simp) ?_
  refine ready_list rfl (fun K hK=>?_)
  refine step_nmap_store (by rfl) (.tmp 30) (.tmp 32) (.tmp 38) (by rfl) Try.underlying66 Try.underlying3 (by rfl) (HM.out.kept HO2.out (by simp)) (by omega) nm (by rw [← HSN.out];rfl) hnm V (by rfl) (n64_wf HV.out) (fun w4 hm4 o4=>?_)
  have HR4:=Lib.hid ((HH.out.quiet HO2.out).put (hin (.inl rfl)) HV.out hcnt hm4 o4)
  have HO4:=Lib.hid (((HO1.out.trans HO2.out (by simp)).mono (T:=[b]) (by simp)).trans o4 (fun k hk=>.inl hk))
  refine hK.out _ _ ⟨cell_kept o4 hH.1 (by simpa using hwb),cell_kept o4 hH.2.1 (by simpa using hwb),cell_kept o4 hH.2.2.1 (by simpa using HH.out.ne.symm),cell_kept o4 hH.2.2.2.1 (by simpa using hgb),cell_kept o4 hH.2.2.2.2.1 (by simpa using hgb),cell_kept o4 hH.2.2.2.2.2.1 (by simpa using hgb),cell_kept o4 hH.2.2.2.2.2.2.1 (by simpa using hgb),cell_kept o4 hH.2.2.2.2.2.2.2 (by simpa using hgb)⟩ (fun hH=>?_)
  clear hK K o4 hm4
  refine wpAnyH_done (by kernel_rfl) ?_ _
  clear hH
  go_wp2_with fail
  go_end0
  rw [HR.out]
  exact ⟨rfl,HR4.out,HO4.out.mono (by simp)⟩
 ·rw [if_neg h1] at hR
  by_cases h6:k=6
  ·subst h6
   rw [if_pos rfl] at hR
   have hlen:ys.length=1:=by rcases hi with hi | hi | hi<;>omega
   clear hi
   obtain ⟨y,rfl⟩:∃ y,ys=[y]:=by
    rcases ys with _ | ⟨y,_ | ⟨z,zs⟩⟩
    ·simp at hlen
    ·exact ⟨y,rfl⟩
    ·simp at hlen
   obtain ⟨gr,rfl,hgr,hes⟩:∃ gr,a0=some ⟨gr,0,none⟩∧B gr∧EsO w B gr 0 [y]:=by
    rcases HX.out with hx | ⟨gr,h1,h2,h3⟩
    ·cases hx
    ·exact ⟨gr,h1,h2,EsAt.eso [y] 0 0 rfl h3⟩
   obtain ⟨k1,n1,sn1,b1,l1,d1,p1,hev1,hat1⟩:=hes.at5 (j:=0) rfl
   have hat:=hat1.kept HO1.out (by simp)
   have hl1:L0=1:=by rw [HL0.out];rfl
   subst hl1
   have z0:w1.cell? ⟨gr,0,none⟩=some (.int .i64 k1):=hat.c0
   have z1:w1.cell? ⟨gr,1,none⟩=some (.int .i64 n1):=hat.c1
   have z2:w1.cell? ⟨gr,2,none⟩=some (.string sn1):=hat.c2
   have z3:w1.cell? ⟨gr,3,none⟩=some (.slice b1 l1 d1):=hat.c3
   have z4:w1.cell? ⟨gr,4,none⟩=some (.int .i64 p1):=hat.c4
   have y1:w1.cell? ⟨w.heap.size,1,none⟩=some (.string sn):=cell_at 1 HY.out
   have y2:w1.cell? ⟨w.heap.size,2,none⟩=some (.slice (some ⟨gr,0,none⟩) 1 c0):=cell_at 2 HY.out
   have wy:wE y:=by unfold wL at hwl;exact hwl.1
   have gy:gE y:=by unfold gL at hgl;exact hgl.1
   have hev2:EV w1 B y [.int .i64 k1,.int .i64 n1,.string sn1,.slice b1 l1 d1,.int .i64 p1]:=hev1.quiet HO1.out
   have KX:=fun (w2:World) (o2:Only [] w1 w2)=>pexpr_any (HH.out.quiet o2) wy gy (hev2.quiet o2)
   rw [exVs_one] at hR
   have HR:=Lib.hid hR
   have HV:=Lib.hid (exV_n64 HH.out.sw.1 HH.out.sw.2 y gy)
   generalize exV s.c s.m y=V at KX HR HV
   have HKX:=Lib.hid KX
   have hgb:gr≠b:=fun e=>hb (e ▸ hgr)
   have hgg:gr≠g:=fun e=>hg (e ▸ hgr)
   clear hR hat hat1 hev1 hev2 hes hwl hgl wy gy KX
   have y4:w1.cell? ⟨w.heap.size,4,none⟩=some (.slice a1 L1 c1):=cell_at 4 HY.out
   have y5:w1.cell? ⟨w.heap.size,5,none⟩=some (.slice a2 L2 c2):=cell_at 5 HY.out
   go_enter Try.func51,Try.ntmps51
   go_upto_region 6 with (fail)
   rw [← HW.out]
   go_wp2_with fail
   refine (HKX.out w1 (Only.refl _ _)).mono ?_
   rintro e w2 ⟨rfl,o2⟩
   have HOQ:=Lib.hid o2
   have y4:=cell_kept o2 y4 (by simp)
   have y5:=cell_kept o2 y5 (by simp)
   clear o2 y1 y2 z0 z1 z2 z3 z4
   by_cases hV:V=0
   ·subst hV
    have hR:=HR.out
    rw [if_neg (by simp)] at hR
    replace HR:=Lib.hid hR
    clear hR
    go_wp2_with fail
    refine (IB els hs1.2 w2 g b L C n _ _ B (HH.out.quiet HOQ.out) oke (HVE.out.kept (HO1.out.trans HOQ.out (by simp)) (by simp) (fun _ h=>h)) hg hb).mono ?_
    rintro en w3 ⟨rfl,hk3,ho3⟩
    have HK3:=Lib.hid hk3
    have HO3:=Lib.hid (((HO1.out.trans HOQ.out (by simp)).mono (T:=[g,b]) (by simp)).trans ho3 (fun k hk=>.inl hk))
    clear hk3 ho3
    go_wp2_with fail
    go_end0
    rw [HR.out]
    exact ⟨rfl,HK3.out,HO3.out⟩
   ·have hV':(V != 0)=true:=by simpa using hV
    have hR:=HR.out
    rw [if_pos hV] at hR
    replace HR:=Lib.hid hR
    clear hR
    go_wp2_with fail
    refine (IB bd hs1.1 w2 g b L C n _ _ B (HH.out.quiet HOQ.out) okb (HVB.out.kept (HO1.out.trans HOQ.out (by simp)) (by simp) (fun _ h=>h)) hg hb).mono ?_
    rintro en w3 ⟨rfl,hk3,ho3⟩
    have HK3:=Lib.hid hk3
    have HO3:=Lib.hid (((HO1.out.trans HOQ.out (by simp)).mono (T:=[g,b]) (by simp)).trans ho3 (fun k hk=>.inl hk))
    clear hk3 ho3
    go_wp2_with fail
    go_end0
    rw [HR.out]
    exact ⟨rfl,HK3.out,HO3.out⟩
  ·rw [if_neg h6] at hR
   have e1:(k == 1)=false:=by simpa using h1
   have e6:(k == 6)=false:=by simpa using h6
   by_cases h7:k=7
   ·subst h7
    rw [if_pos rfl] at hR
    have hnn:=hfew (.inl rfl)
    obtain ⟨q,rfl⟩:∃ q:Nat,nn=(q:Int):=⟨nn.toNat,by omega⟩
    have hq:q≤64:=by omega
    rw [show ((q:Int)).toNat=q from rfl] at hR
    have HR:=Lib.hid hR
    have hnl:=hin (.inr (.inl rfl))
    have y3:w1.cell? ⟨w.heap.size,3,none⟩=some (.int .i64 (q:Int)):=cell_at 3 HY.out
    clear hR hnn hi
    go_enter Try.func51,Try.ntmps51
    go_upto_region 10 with (fail)
    rw [← HW.out]
    go_wp2_with fail
    go_loopw [4,60] (fun ia ib wr=>∃ j:Nat,j≤q∧ib=.int .i64 (j:Int)∧Hid (RM wr g b L C n (loopA (fun i s=>pgB bd ⟨s.c,nput s.m nm (i:Int)⟩) j s))∧Hid (Only [g,b] w1 wr)) (fun ia ib _=>q - (intOf ib).toNat)
    case atStart=>exact ⟨0,Nat.zero_le _,rfl,HH,Lib.hid (Only.refl _ _)⟩
    case round=>
     obtain ⟨j,hjq,rfl,HK,HO⟩:=hrel
     by_cases hlt:j < q
     ·have hlt':(j:Int) < (q:Int):=by omega
      have hNB:=two_notB (B:=fun k=>k=w.heap.size) (g:=g) (b:=b) hwg.symm hwb.symm
      have hns:w.heap.size∉[g,b]:=fun hm=>hNB _ hm rfl
      have y0:wr.cell? ⟨w.heap.size,0,none⟩=some (.int .i64 7):=cell_kept HO.out (cell_at 0 HY.out) hns
      have y1:wr.cell? ⟨w.heap.size,1,none⟩=some (.string sn):=cell_kept HO.out (cell_at 1 HY.out) hns
      have y2:wr.cell? ⟨w.heap.size,2,none⟩=some (.slice a0 L0 c0):=cell_kept HO.out (cell_at 2 HY.out) hns
      have y3:wr.cell? ⟨w.heap.size,3,none⟩=some (.int .i64 (q:Int)):=cell_kept HO.out (cell_at 3 HY.out) hns
      have y4:wr.cell? ⟨w.heap.size,4,none⟩=some (.slice a1 L1 c1):=cell_kept HO.out (cell_at 4 HY.out) hns
      have y5:wr.cell? ⟨w.heap.size,5,none⟩=some (.slice a2 L2 c2):=cell_kept HO.out (cell_at 5 HY.out) hns
      have y6:wr.cell? ⟨w.heap.size,6,none⟩=some (.int .i64 p):=cell_kept HO.out (cell_at 6 HY.out) hns
      have ho01:Only [g,b] w wr:=(HO1.out.mono (T:=[g,b]) (by simp)).trans HO.out (fun k hk=>.inl hk)
      have KX:=pround_any N IB hs1.1 HK.out okb hnm hnl (SV.kept ho01 (two_notB hg hb) (fun _ h=>h) _ _ HSV.out) hg hb (j:Int) (by unfold n64;omega)
      have hEQ:=trivial
      clear hNB hns ho01
      go_wp2_with fail
      refine KX.mono ?_
      rintro en w3 ⟨rfl,hk3,ho3⟩
      have HK3:=Lib.hid hk3
      have HO3:=Lib.hid (HO.out.trans ho3 (fun k hk=>.inl hk))
      clear hk3 ho3 KX y0 y1 y2 y3 y4 y5 y6
      go_wp2_with fail
      refine ⟨⟨j+1,by omega,by go_num,HK3,HO3⟩,?_⟩
      simp [intOf]
      omega
     ·obtain rfl:j=q:=by omega
      have HO3:=Lib.hid ((HO1.out.mono (T:=[g,b]) (by simp)).trans HO.out (fun k hk=>.inl hk))
      go_wp2_with fail
      go_end0
      rw [HR.out]
      exact ⟨rfl,HK.out,HO3.out⟩
   ·rw [if_neg h7] at hR
    have e7:(k == 7)=false:=by simpa using h7
    by_cases h8:k=8
    ·subst h8
     rw [if_pos rfl] at hR
     have hnn:=hfew (.inr rfl)
     obtain ⟨q,rfl⟩:∃ q:Nat,nn=(q:Int):=⟨nn.toNat,by omega⟩
     have hq:q≤64:=by omega
     rw [show ((q:Int)).toNat=q from rfl] at hR
     have HR:=Lib.hid hR
     have hnl:=hin (.inr (.inr rfl))
     have y3:w1.cell? ⟨w.heap.size,3,none⟩=some (.int .i64 (q:Int)):=cell_at 3 HY.out
     clear hR hnn hi
     go_enter Try.func51,Try.ntmps51
     go_upto_region 16 with (fail)
     rw [← HW.out]
     go_wp2_with fail
     go_loopw [5,72] (fun ia ib wr=>∃ j:Nat,j≤q∧ib=.int .i64 (j:Int)∧Hid (RM wr g b L C n (loopA (fun i s=>pgB bd ⟨s.c,nput s.m nm ((q:Int) - 1 - (i:Int))⟩) j s))∧Hid (Only [g,b] w1 wr)) (fun ia ib _=>q - (intOf ib).toNat)
     case atStart=>exact ⟨0,Nat.zero_le _,rfl,HH,Lib.hid (Only.refl _ _)⟩
     case round=>
      obtain ⟨j,hjq,rfl,HK,HO⟩:=hrel
      by_cases hlt:j < q
      ·have hlt':(j:Int) < (q:Int):=by omega
       have hNB:=two_notB (B:=fun k=>k=w.heap.size) (g:=g) (b:=b) hwg.symm hwb.symm
       have hns:w.heap.size∉[g,b]:=fun hm=>hNB _ hm rfl
       have y0:wr.cell? ⟨w.heap.size,0,none⟩=some (.int .i64 8):=cell_kept HO.out (cell_at 0 HY.out) hns
       have y1:wr.cell? ⟨w.heap.size,1,none⟩=some (.string sn):=cell_kept HO.out (cell_at 1 HY.out) hns
       have y2:wr.cell? ⟨w.heap.size,2,none⟩=some (.slice a0 L0 c0):=cell_kept HO.out (cell_at 2 HY.out) hns
       have y3:wr.cell? ⟨w.heap.size,3,none⟩=some (.int .i64 (q:Int)):=cell_kept HO.out (cell_at 3 HY.out) hns
       have y4:wr.cell? ⟨w.heap.size,4,none⟩=some (.slice a1 L1 c1):=cell_kept HO.out (cell_at 4 HY.out) hns
       have y5:wr.cell? ⟨w.heap.size,5,none⟩=some (.slice a2 L2 c2):=cell_kept HO.out (cell_at 5 HY.out) hns
       have y6:wr.cell? ⟨w.heap.size,6,none⟩=some (.int .i64 p):=cell_kept HO.out (cell_at 6 HY.out) hns
       have ho01:Only [g,b] w wr:=(HO1.out.mono (T:=[g,b]) (by simp)).trans HO.out (fun k hk=>.inl hk)
       have KX:=pround_any N IB hs1.1 HK.out okb hnm hnl (SV.kept ho01 (two_notB hg hb) (fun _ h=>h) _ _ HSV.out) hg hb ((q:Int) - 1 - (j:Int)) (by unfold n64;omega)
       have hEQ:wrap64 (wrap64 ((q:Int) - 1) - (j:Int))=(q:Int) - 1 - (j:Int):=by unfold wrap64;omega
       clear hNB hns ho01
       go_wp2_with fail
       refine KX.mono ?_
       rintro en w3 ⟨rfl,hk3,ho3⟩
       have HK3:=Lib.hid hk3
       have HO3:=Lib.hid (HO.out.trans ho3 (fun k hk=>.inl hk))
       clear hk3 ho3 KX y0 y1 y2 y3 y4 y5 y6
       go_wp2_with fail
       refine ⟨⟨j+1,by omega,by go_num,HK3,HO3⟩,?_⟩
       simp [intOf]
       omega
      ·obtain rfl:j=q:=by omega
       have HO3:=Lib.hid ((HO1.out.mono (T:=[g,b]) (by simp)).trans HO.out (fun k hk=>.inl hk))
       go_wp2_with fail
       go_end0
       rw [HR.out]
       exact ⟨rfl,HK.out,HO3.out⟩
    ·rw [if_neg h8] at hR
     have e8:(k == 8)=false:=by simpa using h8
     have hlen:ys.length=2:=by rcases hi with hi | hi | hi<;>omega
     clear hi
     by_cases h5:k=5
     ·subst h5
      rw [if_pos rfl] at hR
      obtain ⟨y,z,rfl⟩:∃ y z,ys=[y,z]:=by
       rcases ys with _ | ⟨y,_ | ⟨z,_ | ⟨u,us⟩⟩⟩
       ·simp at hlen
       ·simp at hlen
       ·exact ⟨y,z,rfl⟩
       ·simp at hlen
      obtain ⟨gr,rfl,hgr,hes⟩:∃ gr,a0=some ⟨gr,0,none⟩∧B gr∧EsO w B gr 0 [y,z]:=by
       rcases HX.out with hx | ⟨gr,h1,h2,h3⟩
       ·cases hx
       ·exact ⟨gr,h1,h2,EsAt.eso [y,z] 0 0 rfl h3⟩
      obtain ⟨k1,n1,sn1,b1,l1,d1,p1,hev1,hat1⟩:=hes.at5 (j:=0) rfl
      obtain ⟨k2,n2,sn2,b2,l2,d2,p2,hev2,hat2⟩:=hes.at5 (j:=1) rfl
      have q1:=hat1.kept HO1.out (by simp)
      have q2:=hat2.kept HO1.out (by simp)
      have hl1:L0=2:=by rw [HL0.out];rfl
      subst hl1
      have hZ:w1.cell? ⟨w.heap.size,0,none⟩=some (.int .i64 5)∧w1.cell? ⟨w.heap.size,2,none⟩=some (.slice (some ⟨gr,0,none⟩) 2 c0)∧w1.cell? ⟨gr,0,none⟩=some (.int .i64 k1)∧w1.cell? ⟨gr,1,none⟩=some (.int .i64 n1)∧w1.cell? ⟨gr,2,none⟩=some (.string sn1)∧w1.cell? ⟨gr,3,none⟩=some (.slice b1 l1 d1)∧w1.cell? ⟨gr,4,none⟩=some (.int .i64 p1)∧w1.cell? ⟨gr,5,none⟩=some (.int .i64 k2)∧w1.cell? ⟨gr,6,none⟩=some (.int .i64 n2)∧w1.cell? ⟨gr,7,none⟩=some (.string sn2)∧w1.cell? ⟨gr,8,none⟩=some (.slice b2 l2 d2)∧w1.cell? ⟨gr,9,none⟩=some (.int .i64 p2):=
       ⟨cell_at 0 HY.out,cell_at 2 HY.out,q1.c0,q1.c1,q1.c2,q1.c3,q1.c4,q2.c0,q2.c1,q2.c2,q2.c3,q2.c4⟩
      have HZ:=Lib.hid hZ
      have wy:wE y∧wE z:=by unfold wL at hwl;unfold wL at hwl;exact ⟨hwl.1,hwl.2.1⟩
      have gy:gE y∧gE z:=by unfold gL at hgl;unfold gL at hgl;exact ⟨hgl.1,hgl.2.1⟩
      have HEV1:=Lib.hid (hev1.quiet HO1.out)
      have HEV2:=Lib.hid (hev2.quiet HO1.out)
      have HKX:=Lib.hid (fun (w2:World) (o2:Only [] w1 w2)=>pexpr_any (HH.out.quiet o2) wy.1 gy.1 (HEV1.out.quiet o2))
      have HKY:=Lib.hid (fun (w2:World) (o2:Only [] w1 w2)=>pexpr_any (HH.out.quiet o2) wy.2 gy.2 (HEV2.out.quiet o2))
      rw [exVs_one,exVs_two] at hR
      have HR:=Lib.hid hR
      have HV1:=Lib.hid (exV_n64 HH.out.sw.1 HH.out.sw.2 y gy.1)
      have HV2:=Lib.hid (exV_n64 HH.out.sw.1 HH.out.sw.2 z gy.2)
      generalize exV s.c s.m y=V1 at HKX HR HV1
      generalize exV s.c s.m z=V2 at HKY HR HV2
      clear hR hat1 hat2 hev1 hev2 hes hwl hgl wy gy q1 q2 hZ
      have hgg:gr≠g:=fun e=>hg (e ▸ hgr)
      go_enter Try.func51,Try.ntmps51
      go_upto_region 22 with (fail)
      rw [← HW.out]
      have hZ:=HZ.out
      have oD:Only [] w1 w1.drew:=(Only.refl [] w1).drew
      refine wp_region_held_drew (S:=fun w1=>w1.cell? ⟨w.heap.size,0,none⟩=some (.int .i64 5)∧w1.cell? ⟨w.heap.size,2,none⟩=some (.slice (some ⟨gr,0,none⟩) 2 c0)∧w1.cell? ⟨gr,0,none⟩=some (.int .i64 k1)∧w1.cell? ⟨gr,1,none⟩=some (.int .i64 n1)∧w1.cell? ⟨gr,2,none⟩=some (.string sn1)∧w1.cell? ⟨gr,3,none⟩=some (.slice b1 l1 d1)∧w1.cell? ⟨gr,4,none⟩=some (.int .i64 p1)∧w1.cell? ⟨gr,5,none⟩=some (.int .i64 k2)∧w1.cell? ⟨gr,6,none⟩=some (.int .i64 n2)∧w1.cell? ⟨gr,7,none⟩=some (.string sn2)∧w1.cell? ⟨gr,8,none⟩=some (.slice b2 l2 d2)∧w1.cell? ⟨gr,9,none⟩=some (.int .i64 p2)) (by kernel_rfl) ⟨cell_kept oD hZ.1 (by simp),cell_kept oD hZ.2.1 (by simp),cell_kept oD hZ.2.2.1 (by simp),cell_kept oD hZ.2.2.2.1 (by simp),cell_kept oD hZ.2.2.2.2.1 (by simp),cell_kept oD hZ.2.2.2.2.2.1 (by simp),cell_kept oD hZ.2.2.2.2.2.2.1 (by simp),cell_kept oD hZ.2.2.2.2.2.2.2.1 (by simp),cell_kept oD hZ.2.2.2.2.2.2.2.2.1 (by simp),cell_kept oD hZ.2.2.2.2.2.2.2.2.2.1 (by simp),cell_kept oD hZ.2.2.2.2.2.2.2.2.2.2.1 (by simp),cell_kept oD hZ.2.2.2.2.2.2.2.2.2.2.2 (by simp)⟩ (fun hH=>?_)
      have HO2:=Lib.hid oD
      clear oD hZ
      generalize w1.drew=wd at HO2 hH⊢
      refine take_list (i:=0) (v:=?_) rfl (by kernel_rfl) (by kernel_rfl) (by kernel_rfl) (fun _ _ _ h=>h) (Or.inl ⟨by rfl,?_⟩) hH ?_
      rotate_left
      ·((intro w hSw;(try dsimp only at hSw);go_simp);try with_reducible rfl)
      simp only [Act.put,List.setIfInBounds_toArray,List.set_cons_zero,List.set_cons_succ]
      refine take_list (i:=1) (v:=?_) rfl (by kernel_rfl) (by kernel_rfl) (by kernel_rfl) (fun _ _ _ h=>h) (Or.inl ⟨by rfl,?_⟩) hH ?_
      rotate_left
      ·((intro w hSw;(try dsimp only at hSw);go_simp);try with_reducible rfl)
      simp only [Act.put,List.setIfInBounds_toArray,List.set_cons_zero,List.set_cons_succ]
      refine take_list (i:=2) (v:=?_) rfl (by kernel_rfl) (by kernel_rfl) (by kernel_rfl) (fun _ _ _ h=>h) (Or.inl ⟨by rfl,?_⟩) hH ?_
      rotate_left
      ·((intro w hSw;(try dsimp only at hSw);go_simp);try with_reducible rfl)
      simp only [Act.put,List.setIfInBounds_toArray,List.set_cons_zero,List.set_cons_succ]
      refine take_list (i:=3) (v:=?_) rfl (by kernel_rfl) (by kernel_rfl) (by kernel_rfl) (fun _ _ _ h=>h) (Or.inl ⟨by rfl,?_⟩) hH ?_
      rotate_left
      ·((intro w hSw;(try dsimp only at hSw);go_simp);try with_reducible rfl)
      simp only [Act.put,List.setIfInBounds_toArray,List.set_cons_zero,List.set_cons_succ]
      refine take_list (i:=4) (v:=?_) rfl (by kernel_rfl) (by kernel_rfl) (by kernel_rfl) (fun _ _ _ h=>h) (Or.inl ⟨by rfl,?_⟩) hH ?_
      rotate_left
      ·((intro w hSw;(try dsimp only at hSw);go_simp);try with_reducible rfl)
      simp only [Act.put,List.setIfInBounds_toArray,List.set_cons_zero,List.set_cons_succ]
      refine take_list (i:=5) (v:=?_) rfl (by kernel_rfl) (by kernel_rfl) (by kernel_rfl) (fun _ _ _ h=>h) (Or.inl ⟨by rfl,?_⟩) hH ?_
      rotate_left
      ·((intro w hSw;(try dsimp only at hSw);go_simp);try with_reducible rfl)
      simp only [Act.put,List.setIfInBounds_toArray,List.set_cons_zero,List.set_cons_succ]
      refine take_list (i:=8) (v:=?_) rfl (by kernel_rfl) (by kernel_rfl) (by kernel_rfl) (fun _ _ _ h=>h) (Or.inl ⟨by rfl,?_⟩) hH ?_
      rotate_left
      ·((intro w hSw;(try dsimp only at hSw);go_simp);try with_reducible rfl)
      simp only [Act.put,List.setIfInBounds_toArray,List.set_cons_zero,List.set_cons_succ]
      refine take_list (i:=9) (v:=?_) rfl (by kernel_rfl) (by kernel_rfl) (by kernel_rfl) (fun _ _ _ h=>h) (Or.inl ⟨by rfl,?_⟩) hH ?_
      rotate_left
      ·((intro w hSw;(try dsimp only at hSw);go_simp);try with_reducible rfl)
      simp only [Act.put,List.setIfInBounds_toArray,List.set_cons_zero,List.set_cons_succ]
      refine take_list (i:=10) (v:=?_) rfl (by kernel_rfl) (by kernel_rfl) (by kernel_rfl) (fun _ _ _ h=>h) (Or.inl ⟨by rfl,?_⟩) hH ?_
      rotate_left
      ·((intro w hSw;(try dsimp only at hSw);go_simp);try with_reducible rfl)
      simp only [Act.put,List.setIfInBounds_toArray,List.set_cons_zero,List.set_cons_succ]
      refine take_list (i:=11) (v:=?_) rfl (by kernel_rfl) (by kernel_rfl) (by kernel_rfl) (fun _ _ _ h=>h) (Or.inl ⟨by rfl,?_⟩) hH ?_
      rotate_left
      ·((intro w hSw;(try dsimp only at hSw);go_simp);try with_reducible rfl)
      simp only [Act.put,List.setIfInBounds_toArray,List.set_cons_zero,List.set_cons_succ]
      refine take_list (i:=12) (v:=?_) rfl (by kernel_rfl) (by kernel_rfl) (by kernel_rfl) (fun _ _ _ h=>h) (Or.inl ⟨by rfl,?_⟩) hH ?_
      rotate_left
      ·((intro w hSw;(try dsimp only at hSw);go_simp);try with_reducible rfl)
      simp only [Act.put,List.setIfInBounds_toArray,List.set_cons_zero,List.set_cons_succ]
      refine take_list (i:=13) (v:=?_) rfl (by kernel_rfl) (by kernel_rfl) (by kernel_rfl) (fun _ _ _ h=>h) (Or.inl ⟨by rfl,?_⟩) hH ?_
      rotate_left
      ·((intro w hSw;(try dsimp only at hSw);go_simp);try with_reducible rfl)
      simp only [Act.put,List.setIfInBounds_toArray,List.set_cons_zero,List.set_cons_succ]
      refine wpAnyH_ready (rs:=[6]) (by kernel_rfl) (by simp) ?_
      refine ready_list rfl (fun K hK=>?_)
      go_simp
      refine (HKX.out wd HO2.out).mono ?_
      rintro e w3 ⟨rfl,o3⟩
      replace HO2:=Lib.hid (HO2.out.trans o3 (by simp))
      refine hK.out _ _ ⟨cell_kept o3 hH.1 (by simp),cell_kept o3 hH.2.1 (by simp),cell_kept o3 hH.2.2.1 (by simp),cell_kept o3 hH.2.2.2.1 (by simp),cell_kept o3 hH.2.2.2.2.1 (by simp),cell_kept o3 hH.2.2.2.2.2.1 (by simp),cell_kept o3 hH.2.2.2.2.2.2.1 (by simp),cell_kept o3 hH.2.2.2.2.2.2.2.1 (by simp),cell_kept o3 hH.2.2.2.2.2.2.2.2.1 (by simp),cell_kept o3 hH.2.2.2.2.2.2.2.2.2.1 (by simp),cell_kept o3 hH.2.2.2.2.2.2.2.2.2.2.1 (by simp),cell_kept o3 hH.2.2.2.2.2.2.2.2.2.2.2 (by simp)⟩ (fun hH=>?_)
      clear hK K o3
      have KC:=pcell_any (HH.out.quiet HO2.out) V1 HV1.out
      refine wpAnyH_ready (rs:=[7]) (by kernel_rfl) (by simp) ?_
      refine ready_list rfl (fun K hK=>?_)
      go_simp
      refine KC.mono ?_
      rintro e w4 ⟨rfl,o3⟩
      replace HO2:=Lib.hid (HO2.out.trans o3 (by simp))
      refine hK.out _ _ ⟨cell_kept o3 hH.1 (by simp),cell_kept o3 hH.2.1 (by simp),cell_kept o3 hH.2.2.1 (by simp),cell_kept o3 hH.2.2.2.1 (by simp),cell_kept o3 hH.2.2.2.2.1 (by simp),cell_kept o3 hH.2.2.2.2.2.1 (by simp),cell_kept o3 hH.2.2.2.2.2.2.1 (by simp),cell_kept o3 hH.2.2.2.2.2.2.2.1 (by simp),cell_kept o3 hH.2.2.2.2.2.2.2.2.1 (by simp),cell_kept o3 hH.2.2.2.2.2.2.2.2.2.1 (by simp),cell_kept o3 hH.2.2.2.2.2.2.2.2.2.2.1 (by simp),cell_kept o3 hH.2.2.2.2.2.2.2.2.2.2.2 (by simp)⟩ (fun hH=>?_)
      clear hK K o3 KC
      refine wpAnyH_ready (rs:=[14]) (by kernel_rfl) (by simp) ?_
      refine ready_list rfl (fun K hK=>?_)
      go_simp
      refine (HKY.out w4 HO2.out).mono ?_
      rintro e w5 ⟨rfl,o3⟩
      replace HO2:=Lib.hid (HO2.out.trans o3 (by simp))
      refine hK.out _ _ ⟨cell_kept o3 hH.1 (by simp),cell_kept o3 hH.2.1 (by simp),cell_kept o3 hH.2.2.1 (by simp),cell_kept o3 hH.2.2.2.1 (by simp),cell_kept o3 hH.2.2.2.2.1 (by simp),cell_kept o3 hH.2.2.2.2.2.1 (by simp),cell_kept o3 hH.2.2.2.2.2.2.1 (by simp),cell_kept o3 hH.2.2.2.2.2.2.2.1 (by simp),cell_kept o3 hH.2.2.2.2.2.2.2.2.1 (by simp),cell_kept o3 hH.2.2.2.2.2.2.2.2.2.1 (by simp),cell_kept o3 hH.2.2.2.2.2.2.2.2.2.2.1 (by simp),cell_kept o3 hH.2.2.2.2.2.2.2.2.2.2.2 (by simp)⟩ (fun hH=>?_)
      clear hK K o3
      have KC:=pcell_any (HH.out.quiet HO2.out) V2 HV2.out
      refine wpAnyH_ready (rs:=[15]) (by kernel_rfl) (by simp) ?_
      refine ready_list rfl (fun K hK=>?_)
      go_simp
      refine KC.mono ?_
      rintro e w6 ⟨rfl,o3⟩
      replace HO2:=Lib.hid (HO2.out.trans o3 (by simp))
      refine hK.out _ _ ⟨cell_kept o3 hH.1 (by simp),cell_kept o3 hH.2.1 (by simp),cell_kept o3 hH.2.2.1 (by simp),cell_kept o3 hH.2.2.2.1 (by simp),cell_kept o3 hH.2.2.2.2.1 (by simp),cell_kept o3 hH.2.2.2.2.2.1 (by simp),cell_kept o3 hH.2.2.2.2.2.2.1 (by simp),cell_kept o3 hH.2.2.2.2.2.2.2.1 (by simp),cell_kept o3 hH.2.2.2.2.2.2.2.2.1 (by simp),cell_kept o3 hH.2.2.2.2.2.2.2.2.2.1 (by simp),cell_kept o3 hH.2.2.2.2.2.2.2.2.2.2.1 (by simp),cell_kept o3 hH.2.2.2.2.2.2.2.2.2.2.2 (by simp)⟩ (fun hH=>?_)
      clear hK K o3 KC
      have KC:=swap_any (HH.out.quiet HO2.out) V1 V2
      refine wpAnyH_ready (rs:=[16]) (by kernel_rfl) (by simp) ?_
      refine ready_list rfl (fun K hK=>?_)
      go_simp
      refine KC.mono ?_
      rintro e w7 ⟨rfl,h7,o7⟩
      have H7:=Lib.hid h7
      have HO7:=Lib.hid (((HO1.out.trans HO2.out (by simp)).mono (T:=[g]) (by simp)).trans o7 (fun k hk=>.inl hk))
      refine hK.out _ _ ⟨cell_kept o7 hH.1 (by simpa using hwg),cell_kept o7 hH.2.1 (by simpa using hwg),cell_kept o7 hH.2.2.1 (by simpa using hgg),cell_kept o7 hH.2.2.2.1 (by simpa using hgg),cell_kept o7 hH.2.2.2.2.1 (by simpa using hgg),cell_kept o7 hH.2.2.2.2.2.1 (by simpa using hgg),cell_kept o7 hH.2.2.2.2.2.2.1 (by simpa using hgg),cell_kept o7 hH.2.2.2.2.2.2.2.1 (by simpa using hgg),cell_kept o7 hH.2.2.2.2.2.2.2.2.1 (by simpa using hgg),cell_kept o7 hH.2.2.2.2.2.2.2.2.2.1 (by simpa using hgg),cell_kept o7 hH.2.2.2.2.2.2.2.2.2.2.1 (by simpa using hgg),cell_kept o7 hH.2.2.2.2.2.2.2.2.2.2.2 (by simpa using hgg)⟩ (fun hH=>?_)
      clear hK K o7 h7 KC
      refine wpAnyH_done (by kernel_rfl) ?_ _
      clear hH
      go_wp2_with fail
      go_end0
      rw [HR.out]
      exact ⟨rfl,H7.out,HO7.out.mono (by simp)⟩
     ·rw [if_neg h5] at hR
      have e5:(k == 5)=false:=by simpa using h5
      obtain ⟨y,z,rfl⟩:∃ y z,ys=[y,z]:=by
       rcases ys with _ | ⟨y,_ | ⟨z,_ | ⟨u,us⟩⟩⟩
       ·simp at hlen
       ·simp at hlen
       ·exact ⟨y,z,rfl⟩
       ·simp at hlen
      obtain ⟨gr,rfl,hgr,hes⟩:∃ gr,a0=some ⟨gr,0,none⟩∧B gr∧EsO w B gr 0 [y,z]:=by
       rcases HX.out with hx | ⟨gr,h1,h2,h3⟩
       ·cases hx
       ·exact ⟨gr,h1,h2,EsAt.eso [y,z] 0 0 rfl h3⟩
      obtain ⟨k1,n1,sn1,b1,l1,d1,p1,hev1,hat1⟩:=hes.at5 (j:=0) rfl
      obtain ⟨k2,n2,sn2,b2,l2,d2,p2,hev2,hat2⟩:=hes.at5 (j:=1) rfl
      have q1:=hat1.kept HO1.out (by simp)
      have q2:=hat2.kept HO1.out (by simp)
      have hl1:L0=2:=by rw [HL0.out];rfl
      subst hl1
      have hZ:w1.cell? ⟨w.heap.size,0,none⟩=some (.int .i64 k)∧w1.cell? ⟨w.heap.size,2,none⟩=some (.slice (some ⟨gr,0,none⟩) 2 c0)∧w1.cell? ⟨gr,0,none⟩=some (.int .i64 k1)∧w1.cell? ⟨gr,1,none⟩=some (.int .i64 n1)∧w1.cell? ⟨gr,2,none⟩=some (.string sn1)∧w1.cell? ⟨gr,3,none⟩=some (.slice b1 l1 d1)∧w1.cell? ⟨gr,4,none⟩=some (.int .i64 p1)∧w1.cell? ⟨gr,5,none⟩=some (.int .i64 k2)∧w1.cell? ⟨gr,6,none⟩=some (.int .i64 n2)∧w1.cell? ⟨gr,7,none⟩=some (.string sn2)∧w1.cell? ⟨gr,8,none⟩=some (.slice b2 l2 d2)∧w1.cell? ⟨gr,9,none⟩=some (.int .i64 p2):=
       ⟨cell_at 0 HY.out,cell_at 2 HY.out,q1.c0,q1.c1,q1.c2,q1.c3,q1.c4,q2.c0,q2.c1,q2.c2,q2.c3,q2.c4⟩
      have HZ:=Lib.hid hZ
      have wy:wE y∧wE z:=by unfold wL at hwl;unfold wL at hwl;exact ⟨hwl.1,hwl.2.1⟩
      have gy:gE y∧gE z:=by unfold gL at hgl;unfold gL at hgl;exact ⟨hgl.1,hgl.2.1⟩
      have HEV1:=Lib.hid (hev1.quiet HO1.out)
      have HEV2:=Lib.hid (hev2.quiet HO1.out)
      have HKX:=Lib.hid (fun (w2:World) (o2:Only [] w1 w2)=>pexpr_any (HH.out.quiet o2) wy.1 gy.1 (HEV1.out.quiet o2))
      have HKY:=Lib.hid (fun (w2:World) (o2:Only [] w1 w2)=>pexpr_any (HH.out.quiet o2) wy.2 gy.2 (HEV2.out.quiet o2))
      rw [exVs_one,exVs_two] at hR
      have HR:=Lib.hid hR
      have HV1:=Lib.hid (exV_n64 HH.out.sw.1 HH.out.sw.2 y gy.1)
      have HV2:=Lib.hid (exV_n64 HH.out.sw.1 HH.out.sw.2 z gy.2)
      generalize exV s.c s.m y=V1 at HKX HR HV1
      generalize exV s.c s.m z=V2 at HKY HR HV2
      clear hR hat1 hat2 hev1 hev2 hes hwl hgl wy gy q1 q2 hZ
      have hgg:gr≠g:=fun e=>hg (e ▸ hgr)
      go_enter Try.func51,Try.ntmps51
      go_upto_region 2 with (fail)
      rw [← HW.out]
      have hZ:=HZ.out
      have oD:Only [] w1 w1.drew:=(Only.refl [] w1).drew
      refine wp_region_held_drew (S:=fun w1=>w1.cell? ⟨w.heap.size,0,none⟩=some (.int .i64 k)∧w1.cell? ⟨w.heap.size,2,none⟩=some (.slice (some ⟨gr,0,none⟩) 2 c0)∧w1.cell? ⟨gr,0,none⟩=some (.int .i64 k1)∧w1.cell? ⟨gr,1,none⟩=some (.int .i64 n1)∧w1.cell? ⟨gr,2,none⟩=some (.string sn1)∧w1.cell? ⟨gr,3,none⟩=some (.slice b1 l1 d1)∧w1.cell? ⟨gr,4,none⟩=some (.int .i64 p1)∧w1.cell? ⟨gr,5,none⟩=some (.int .i64 k2)∧w1.cell? ⟨gr,6,none⟩=some (.int .i64 n2)∧w1.cell? ⟨gr,7,none⟩=some (.string sn2)∧w1.cell? ⟨gr,8,none⟩=some (.slice b2 l2 d2)∧w1.cell? ⟨gr,9,none⟩=some (.int .i64 p2)) (by kernel_rfl) ⟨cell_kept oD hZ.1 (by simp),cell_kept oD hZ.2.1 (by simp),cell_kept oD hZ.2.2.1 (by simp),cell_kept oD hZ.2.2.2.1 (by simp),cell_kept oD hZ.2.2.2.2.1 (by simp),cell_kept oD hZ.2.2.2.2.2.1 (by simp),cell_kept oD hZ.2.2.2.2.2.2.1 (by simp),cell_kept oD hZ.2.2.2.2.2.2.2.1 (by simp),cell_kept oD hZ.2.2.2.2.2.2.2.2.1 (by simp),cell_kept oD hZ.2.2.2.2.2.2.2.2.2.1 (by simp),cell_kept oD hZ.2.2.2.2.2.2.2.2.2.2.1 (by simp),cell_kept oD hZ.2.2.2.2.2.2.2.2.2.2.2 (by simp)⟩ (fun hH=>?_)
      have HO2:=Lib.hid oD
      clear oD hZ
      generalize w1.drew=wd at HO2 hH⊢
      refine take_list (i:=0) (v:=?_) rfl (by kernel_rfl) (by kernel_rfl) (by kernel_rfl) (fun _ _ _ h=>h) (Or.inl ⟨by rfl,?_⟩) hH ?_
      rotate_left
      ·((intro w hSw;(try dsimp only at hSw);go_simp);try with_reducible rfl)
      simp only [Act.put,List.setIfInBounds_toArray,List.set_cons_zero,List.set_cons_succ]
      refine take_list (i:=1) (v:=?_) rfl (by kernel_rfl) (by kernel_rfl) (by kernel_rfl) (fun _ _ _ h=>h) (Or.inl ⟨by rfl,?_⟩) hH ?_
      rotate_left
      ·((intro w hSw;(try dsimp only at hSw);go_simp);try with_reducible rfl)
      simp only [Act.put,List.setIfInBounds_toArray,List.set_cons_zero,List.set_cons_succ]
      refine take_list (i:=2) (v:=?_) rfl (by kernel_rfl) (by kernel_rfl) (by kernel_rfl) (fun _ _ _ h=>h) (Or.inl ⟨by rfl,?_⟩) hH ?_
      rotate_left
      ·((intro w hSw;(try dsimp only at hSw);go_simp);try with_reducible rfl)
      simp only [Act.put,List.setIfInBounds_toArray,List.set_cons_zero,List.set_cons_succ]
      refine take_list (i:=3) (v:=?_) rfl (by kernel_rfl) (by kernel_rfl) (by kernel_rfl) (fun _ _ _ h=>h) (Or.inl ⟨by rfl,?_⟩) hH ?_
      rotate_left
      ·((intro w hSw;(try dsimp only at hSw);go_simp);try with_reducible rfl)
      simp only [Act.put,List.setIfInBounds_toArray,List.set_cons_zero,List.set_cons_succ]
      refine take_list (i:=4) (v:=?_) rfl (by kernel_rfl) (by kernel_rfl) (by kernel_rfl) (fun _ _ _ h=>h) (Or.inl ⟨by rfl,?_⟩) hH ?_
      rotate_left
      ·((intro w hSw;(try dsimp only at hSw);go_simp);try with_reducible rfl)
      simp only [Act.put,List.setIfInBounds_toArray,List.set_cons_zero,List.set_cons_succ]
      refine take_list (i:=5) (v:=?_) rfl (by kernel_rfl) (by kernel_rfl) (by kernel_rfl) (fun _ _ _ h=>h) (Or.inl ⟨by rfl,?_⟩) hH ?_
      rotate_left
      ·((intro w hSw;(try dsimp only at hSw);go_simp);try with_reducible rfl)
      simp only [Act.put,List.setIfInBounds_toArray,List.set_cons_zero,List.set_cons_succ]
      refine take_list (i:=6) (v:=?_) rfl (by kernel_rfl) (by kernel_rfl) (by kernel_rfl) (fun _ _ _ h=>h) (Or.inl ⟨by rfl,?_⟩) hH ?_
      rotate_left
      ·((intro w hSw;(try dsimp only at hSw);go_simp);try with_reducible rfl)
      simp only [Act.put,List.setIfInBounds_toArray,List.set_cons_zero,List.set_cons_succ]
      refine take_list (i:=7) (v:=?_) rfl (by kernel_rfl) (by kernel_rfl) (by kernel_rfl) (fun _ _ _ h=>h) (Or.inl ⟨by rfl,?_⟩) hH ?_
      rotate_left
      ·((intro w hSw;(try dsimp only at hSw);go_simp);try with_reducible rfl)
      simp only [Act.put,List.setIfInBounds_toArray,List.set_cons_zero,List.set_cons_succ]
      refine take_list (i:=10) (v:=?_) rfl (by kernel_rfl) (by kernel_rfl) (by kernel_rfl) (fun _ _ _ h=>h) (Or.inl ⟨by rfl,?_⟩) hH ?_
      rotate_left
      ·((intro w hSw;(try dsimp only at hSw);go_simp);try with_reducible rfl)
      simp only [Act.put,List.setIfInBounds_toArray,List.set_cons_zero,List.set_cons_succ]
      refine take_list (i:=11) (v:=?_) rfl (by kernel_rfl) (by kernel_rfl) (by kernel_rfl) (fun _ _ _ h=>h) (Or.inl ⟨by rfl,?_⟩) hH ?_
      rotate_left
      ·((intro w hSw;(try dsimp only at hSw);go_simp);try with_reducible rfl)
      simp only [Act.put,List.setIfInBounds_toArray,List.set_cons_zero,List.set_cons_succ]
      refine take_list (i:=12) (v:=?_) rfl (by kernel_rfl) (by kernel_rfl) (by kernel_rfl) (fun _ _ _ h=>h) (Or.inl ⟨by rfl,?_⟩) hH ?_
      rotate_left
      ·((intro w hSw;(try dsimp only at hSw);go_simp);try with_reducible rfl)
      simp only [Act.put,List.setIfInBounds_toArray,List.set_cons_zero,List.set_cons_succ]
      refine take_list (i:=13) (v:=?_) rfl (by kernel_rfl) (by kernel_rfl) (by kernel_rfl) (fun _ _ _ h=>h) (Or.inl ⟨by rfl,?_⟩) hH ?_
      rotate_left
      ·((intro w hSw;(try dsimp only at hSw);go_simp);try with_reducible rfl)
      simp only [Act.put,List.setIfInBounds_toArray,List.set_cons_zero,List.set_cons_succ]
      refine take_list (i:=14) (v:=?_) rfl (by kernel_rfl) (by kernel_rfl) (by kernel_rfl) (fun _ _ _ h=>h) (Or.inl ⟨by rfl,?_⟩) hH ?_
      rotate_left
      ·((intro w hSw;(try dsimp only at hSw);go_simp);try with_reducible rfl)
      simp only [Act.put,List.setIfInBounds_toArray,List.set_cons_zero,List.set_cons_succ]
      refine wpAnyH_ready (rs:=[8]) (by kernel_rfl) (by simp) ?_
      refine ready_list rfl (fun K hK=>?_)
      go_simp
      refine (HKX.out wd HO2.out).mono ?_
      rintro e w3 ⟨rfl,o3⟩
      replace HO2:=Lib.hid (HO2.out.trans o3 (by simp))
      refine hK.out _ _ ⟨cell_kept o3 hH.1 (by simp),cell_kept o3 hH.2.1 (by simp),cell_kept o3 hH.2.2.1 (by simp),cell_kept o3 hH.2.2.2.1 (by simp),cell_kept o3 hH.2.2.2.2.1 (by simp),cell_kept o3 hH.2.2.2.2.2.1 (by simp),cell_kept o3 hH.2.2.2.2.2.2.1 (by simp),cell_kept o3 hH.2.2.2.2.2.2.2.1 (by simp),cell_kept o3 hH.2.2.2.2.2.2.2.2.1 (by simp),cell_kept o3 hH.2.2.2.2.2.2.2.2.2.1 (by simp),cell_kept o3 hH.2.2.2.2.2.2.2.2.2.2.1 (by simp),cell_kept o3 hH.2.2.2.2.2.2.2.2.2.2.2 (by simp)⟩ (fun hH=>?_)
      clear hK K o3
      have KC:=pcell_any (HH.out.quiet HO2.out) V1 HV1.out
      refine wpAnyH_ready (rs:=[9]) (by kernel_rfl) (by simp) ?_
      refine ready_list rfl (fun K hK=>?_)
      go_simp
      refine KC.mono ?_
      rintro e w4 ⟨rfl,o3⟩
      replace HO2:=Lib.hid (HO2.out.trans o3 (by simp))
      refine hK.out _ _ ⟨cell_kept o3 hH.1 (by simp),cell_kept o3 hH.2.1 (by simp),cell_kept o3 hH.2.2.1 (by simp),cell_kept o3 hH.2.2.2.1 (by simp),cell_kept o3 hH.2.2.2.2.1 (by simp),cell_kept o3 hH.2.2.2.2.2.1 (by simp),cell_kept o3 hH.2.2.2.2.2.2.1 (by simp),cell_kept o3 hH.2.2.2.2.2.2.2.1 (by simp),cell_kept o3 hH.2.2.2.2.2.2.2.2.1 (by simp),cell_kept o3 hH.2.2.2.2.2.2.2.2.2.1 (by simp),cell_kept o3 hH.2.2.2.2.2.2.2.2.2.2.1 (by simp),cell_kept o3 hH.2.2.2.2.2.2.2.2.2.2.2 (by simp)⟩ (fun hH=>?_)
      clear hK K o3 KC
      refine wpAnyH_ready (rs:=[15]) (by kernel_rfl) (by simp) ?_
      refine ready_list rfl (fun K hK=>?_)
      go_simp
      refine (HKY.out w4 HO2.out).mono ?_
      rintro e w5 ⟨rfl,o3⟩
      replace HO2:=Lib.hid (HO2.out.trans o3 (by simp))
      refine hK.out _ _ ⟨cell_kept o3 hH.1 (by simp),cell_kept o3 hH.2.1 (by simp),cell_kept o3 hH.2.2.1 (by simp),cell_kept o3 hH.2.2.2.1 (by simp),cell_kept o3 hH.2.2.2.2.1 (by simp),cell_kept o3 hH.2.2.2.2.2.1 (by simp),cell_kept o3 hH.2.2.2.2.2.2.1 (by simp),cell_kept o3 hH.2.2.2.2.2.2.2.1 (by simp),cell_kept o3 hH.2.2.2.2.2.2.2.2.1 (by simp),cell_kept o3 hH.2.2.2.2.2.2.2.2.2.1 (by simp),cell_kept o3 hH.2.2.2.2.2.2.2.2.2.2.1 (by simp),cell_kept o3 hH.2.2.2.2.2.2.2.2.2.2.2 (by simp)⟩ (fun hH=>?_)
      clear hK K o3
      have KC:=change_any (HH.out.quiet HO2.out) k V1 V2 HV2.out
      refine wpAnyH_ready (rs:=[16]) (by kernel_rfl) (by simp) ?_
      refine ready_list rfl (fun K hK=>?_)
      go_simp
      refine KC.mono ?_
      rintro e w7 ⟨rfl,h7,o7⟩
      have H7:=Lib.hid h7
      have HO7:=Lib.hid (((HO1.out.trans HO2.out (by simp)).mono (T:=[g]) (by simp)).trans o7 (fun k hk=>.inl hk))
      refine hK.out _ _ ⟨cell_kept o7 hH.1 (by simpa using hwg),cell_kept o7 hH.2.1 (by simpa using hwg),cell_kept o7 hH.2.2.1 (by simpa using hgg),cell_kept o7 hH.2.2.2.1 (by simpa using hgg),cell_kept o7 hH.2.2.2.2.1 (by simpa using hgg),cell_kept o7 hH.2.2.2.2.2.1 (by simpa using hgg),cell_kept o7 hH.2.2.2.2.2.2.1 (by simpa using hgg),cell_kept o7 hH.2.2.2.2.2.2.2.1 (by simpa using hgg),cell_kept o7 hH.2.2.2.2.2.2.2.2.1 (by simpa using hgg),cell_kept o7 hH.2.2.2.2.2.2.2.2.2.1 (by simpa using hgg),cell_kept o7 hH.2.2.2.2.2.2.2.2.2.2.1 (by simpa using hgg),cell_kept o7 hH.2.2.2.2.2.2.2.2.2.2.2 (by simpa using hgg)⟩ (fun hH=>?_)
      clear hK K o7 h7 KC
      refine wpAnyH_done (by kernel_rfl) ?_ _
      clear hH
      go_wp2_with fail
      go_end0
      rw [HR.out]
      exact ⟨rfl,H7.out,HO7.out.mono (by simp)⟩
theorem prun_all (N:Nat) (hN:N≤1000000):SPr N∧BPr N:=by
 induction N with
 | zero=>
  have h0:SPr 0:=fun e he=>by cases e;unfold sizeS at he;omega
  exact ⟨h0,pblock_step 0 hN h0⟩
 | succ N ih=>
  obtain ⟨h1,h2⟩:=ih (by omega)
  have h3:=pstmt_step N h2
  exact ⟨h3,pblock_step (N+1) hN h3⟩
theorem pblock_any {w:World} {g b:Nat} {L:List Sec} {C:Nat} {n:Int} {s:PS} {v:Value} {B:Nat→Prop} {xs:List St} (h:RM w g b L C n s) (hok:OkB L xs) (hsz:sizeSs xs≤1000000) (hv:SsV w B v xs) (hg:¬ B g) (hb:¬ B b) :
  Calls Try.prog 23 #[.pointer (some ⟨g,0,none⟩),v] w fun en w'=>en=.returned (.tuple #[])∧RM w' g b L C n (pgB xs s)∧Only [g,b] w w':=
 (prun_all _ hsz).2 xs (Nat.le_refl _) w g b L C n s v B h hok hv hg hb
end Go.Proofs.Ytiaeagpepfmfgaa
namespace Go.Proofs.Ytiaeagpepfmfgaa
open Go.RowKit Go.Maps
set_option linter.unusedSimpArgs false
set_option linter.unusedVariables false
mutual
def nmsS:St→List Sec | .mk _ nm _ _ bd els _=>nm :: (nmsB bd++nmsB els)
def nmsB:List St→List Sec | []=>[] | x :: xs=>nmsS x++nmsB xs
end
mutual
theorem nmsS_len:∀ x:St,(nmsS x).length≤sizeS x
 | .mk k nm xs n bd els p=>by
  unfold nmsS sizeS
  have:=nmsB_len bd
  have:=nmsB_len els
  simp only [List.length_cons,List.length_append]
  omega
theorem nmsB_len:∀ xs:List St,(nmsB xs).length≤sizeSs xs
 | []=>by unfold nmsB sizeSs;simp
 | x :: xs=>by
  unfold nmsB sizeSs
  have:=nmsS_len x
  have:=nmsB_len xs
  simp only [List.length_append]
  omega
end
mutual
theorem inS_of {L:List Sec}:∀ x:St,(∀ z∈nmsS x,z∈L)→inS L x
 | .mk k nm xs n bd els p,h=>by
  unfold nmsS at h
  unfold inS
  refine ⟨fun _=>h nm (by simp),inB_of bd (fun z hz=>h z (by simp [hz])),inB_of els (fun z hz=>h z (by simp [hz]))⟩
theorem inB_of {L:List Sec}:∀ xs:List St,(∀ z∈nmsB xs,z∈L)→inB L xs
 | [],_=>by unfold inB;trivial
 | x :: xs,h=>by
  unfold nmsB at h
  unfold inB
  exact ⟨inS_of x (fun z hz=>h z (by simp [hz])),inB_of xs (fun z hz=>h z (by simp [hz]))⟩
end
def namesD (d:Df):List Sec:=d.params++nmsB d.body
theorem opB_none {d:Df} (h:(opS CS.new d).flt=none):(opB CS.new d).flt=none:=typedC_mono d.give _ _ (opS_none h).1
theorem okB_of {d:Df} (hw:Whole d) (hp:pB d.body) (hg:Good d) (h:(opS CS.new d).flt=none):OkB (namesD d) d.body:=
 ⟨hw.body,hg.body,(stmtsC_few d.body _ hw.body hp (opB_none h)).2,inB_of _ (fun z hz=>List.mem_append_right _ hz)⟩
theorem namesD_len {d:Df} (hw:Whole d):(namesD d).length≤960:=by
 unfold namesD
 rw [List.length_append]
 have:=nmsB_len d.body
 have:=hw.size
 have:=hw.plen
 omega
def mP (ps:List Sec) (av:List Int):Nms:=lastE (ps.zip av)
def runP (d:Df) (n:Int) (c:List Int) (av:List Int):(Int×List Int)×Int×Int:=
 if (opS CS.new d).flt.isSome=true then ((0,blankP),0,13)
 else if av.length≠d.params.length then ((0,blankP),0,2)
 else if (exVs c (mP d.params av) d.needs).any (fun v=>v == 0)=true then ((0,blankP),0,12)
 else ((n,(pgB d.body ⟨c,mP d.params av⟩).c),(exVs (pgB d.body ⟨c,mP d.params av⟩).c (pgB d.body ⟨c,mP d.params av⟩).m d.give).getD 0 0,0)
theorem exVs_length (c:List Int) (m:Nms):∀ xs:List E,(exVs c m xs).length=xs.length
 | []=>by unfold exVs;rfl
 | x :: xs=>by unfold exVs;rw [List.length_cons,exVs_length c m xs,List.length_cons]
theorem exVs_get (c:List Int) (m:Nms):∀ (xs:List E) (j:Nat),(exVs c m xs)[j]?=(xs[j]?).map (exV c m)
 | [],j=>by unfold exVs;simp
 | x :: xs,0=>by unfold exVs;simp
 | x :: xs,j+1=>by unfold exVs;simp only [List.getElem?_cons_succ];exact exVs_get c m xs j
theorem gL_mem:∀ {xs:List E} {j:Nat} {e:E},gL xs→xs[j]?=some e→gE e
 | [],j,e,_,h=>by simp at h
 | x :: xs,0,e,h,hj=>by unfold gL at h;simp at hj;subst hj;exact h.1
 | x :: xs,j+1,e,h,hj=>by unfold gL at h;exact gL_mem h.2 (by simpa using hj)
theorem nw_last:∀ (l:VE),(∀ x∈l,n64 x.2)→NW (lastE l)
 | [],_=>fun z v h=>by cases h
 | x :: l,h=>fun z v hz=>by
  unfold lastE at hz
  cases hl:lastE l z with
  | some u=>
   rw [hl] at hz
   cases hz
   exact nw_last l (fun y hy=>h y (by simp [hy])) z _ hl
  | none=>
   rw [hl] at hz
   dsimp only at hz
   split at hz
   ·cases hz;exact h x (by simp)
   ·cases hz
theorem zip_n64 {ps:List Sec} {av:List Int} (h:∀ z∈av,n64 z):∀ x∈ps.zip av,n64 x.2:=fun x hx=>h _ (List.of_mem_zip hx).2
theorem zip_snoc {ps:List Sec} {av:List Int} {j:Nat} {p:Sec} {a:Int} (hp:ps[j]?=some p) (ha:av[j]?=some a):(ps.zip av).take (j+1)=(ps.zip av).take j++[(p,a)]:=by
 have hz:(ps.zip av)[j]?=some (p,a):=by rw [List.getElem?_zip_eq_some];exact ⟨hp,ha⟩
 obtain ⟨hlt,he⟩:=List.getElem?_eq_some_iff.1 hz
 rw [List.take_add_one,hz]
 rfl
end Go.Proofs.Ytiaeagpepfmfgaa
namespace Go.Proofs.Ytiaeagpepfmfgaa
open Go.RowKit Go.Maps
set_option linter.unusedSimpArgs false
set_option linter.unusedVariables false
theorem built_run_fn (n:Int) (b:Nat) (f:Fin 60→Int):Try.prog.built 68 [(0,.agg (ivA (n :: List.ofFn f))),(1,.map (some b))]=some (runA n (List.ofFn f) b):=by kernel_rfl
theorem built_run (n:Int) (b:Nat) (c:List Int) (hc:c.length=60):Try.prog.built 68 [(0,.agg (ivA (n :: c))),(1,.map (some b))]=some (runA n c b):=by
 have h:=built_run_fn n b (fun i=>c[i.1]'(by omega))
 have e:(List.ofFn fun i:Fin 60=>c[i.1]'(by omega))=c:=by
  apply List.ext_getElem (by rw [List.length_ofFn,hc])
  intro i h1 h2
  rw [List.getElem_ofFn]
 rw [e] at h
 exact h
def runZ:Array Value:=(iv (0 :: blankP)++[Value.map none]).toArray
theorem info_run:(Try.prog.info? 68).map (fun i=>(i.zero,i.size))=some (some (.agg runZ),62):=by kernel_rfl
theorem zero_run (w:World):(zeroValue 68).run Try.prog w=.ok (.agg runZ) w:=by
 obtain ⟨i,hi,hz⟩:=Option.map_eq_some_iff.1 info_run
 simp only [Prod.mk.injEq] at hz
 simp [zeroValue,typeInfo,hi,hz.1]
theorem runA_size {n:Int} {c:List Int} {b:Nat} (h:c.length=60):(runA n c b).size=62:=by
 unfold runA
 rw [List.size_toArray,List.length_append,iv_length,List.length_cons,h]
 rfl
theorem size_runA {n:Int} {c:List Int} {b:Nat} (h:c.length=60):(Try.prog.info? 68).map (·.size)=some (runA n c b).size:=by
 rw [runA_size h]
 kernel_rfl
theorem runA_one {n:Int} {c:List Int} {b:Nat}:(runA n c b).all (·.oneCell')=true:=by simp [runA,iv,Value.oneCell']
theorem results_page3 {fn:Func} {p q r:Tmp} (h:fn.results=#[.cell p 35,.tmp q,.tmp r]) (tmps:Array Value) (w:World) (g:Nat) (l:List Int) (u v:Value) (hp:tmps.getD p undef=.pointer (some ⟨g,0,none⟩)) (hq:tmps.getD q undef=u) (hr:tmps.getD r undef=v) (hb:PB w g 35 l) (hl:l.length=61) :
  (results fn tmps).run Try.prog w=.ok (.tuple #[.agg (ivA l),u,v]) w:=by
 have hp':tmps[p]?.getD undef=.pointer (some ⟨g,0,none⟩):=by simpa using hp
 have hq':tmps[q]?.getD undef=u:=by simpa using hq
 have hr':tmps[r]?.getD undef=v:=by simpa using hr
 simp [results,h,hp',hq',hr',asAddr,load_page hb hl,Result.andThen]
theorem neq_flt (g:Nat) (w:World):(binOp .neq 38 (.iface 106 (.pointer (some ⟨g,0,none⟩))) .nilIface).run Try.prog w=.ok (.bool true) w:=by kernel_rfl
theorem neq_nil (w:World):(binOp .neq 38 .nilIface .nilIface).run Try.prog w=.ok (.bool false) w:=by kernel_rfl
theorem neq_e2 (w:World):(binOp .neq 38 (err 2) .nilIface).run Try.prog w=.ok (.bool true) w:=by kernel_rfl
set_option maxRecDepth 100000 in
set_option maxHeartbeats 4000000 in
theorem ccalls_any (m n:Nat) (w:World) (a:Option Addr) (c:Nat) (a2:Option Addr) (c2:Nat) (s:ByteArray) (a3 a4 a5:Option Addr) (l3 l4 l5 c3 c4 c5:Nat) :
  Calls Try.prog 21 #[.agg #[.string s,.slice a m c,.slice a3 l3 c3,.slice a4 l4 c4,.slice a5 l5 c5],.slice a2 n c2] w fun e w'=>e=.returned (if n=m then .nilIface else err 2)∧Only [] w w':=by
 by_cases h:n=m
 ·have h':((n:Int) != (m:Int))=false:=by simp [h]
  rw [if_pos h]
  clear h
  go_enter Try.func21,Try.ntmps21
  go_wp2_with fail
  go_ret
  exact ⟨rfl,(Only.refl [] w).alloc _⟩
 ·have h':((n:Int) != (m:Int))=true:=by simp;omega
  rw [if_neg h]
  clear h
  go_enter Try.func21,Try.ntmps21
  go_wp2_with fail
  go_ret
  exact ⟨rfl,(Only.refl [] w).alloc _⟩
def errV (k:Int):Value:=if k=0 then .nilIface else err k
def RunPost (w:World) (r:(Int×List Int)×Int×Int) (e:Ending) (w':World):Prop:=e=.returned (.tuple #[.agg (ivA (r.1.1 :: r.1.2)),.int .i64 r.2.1,errV r.2.2])∧Only [] w w'
section
variable {w:World} {ops:Array Oper} {rest:List Oper} {o:Oper} {a:Act} {Q:Exit→Act→World→Prop}
theorem wpList_new_run (hg:o.guard=none) (hop:o.op=.alloc 68)
  (h:wpList Try.prog ops Q rest (a.put o.dst (.pointer (some ⟨w.heap.size,0,none⟩))) (w.alloc (.cells runZ 68))):wpList Try.prog ops Q (o :: rest) a w:=
 wpList_alloc_row hg _ hop _ zero_run h
theorem wpList_built_run (hg:o.guard=none) (x y:Operand) (ho:o.op=.build 68 #[(0,x),(1,y)]) (n:Int) (c:List Int) (b:Nat) (hc:c.length=60) (hx:a.eval x=.agg (ivA (n :: c))) (hy:a.eval y=.map (some b))
  (h:wpList Try.prog ops Q rest (a.put o.dst (.agg (runA n c b))) w):wpList Try.prog ops Q (o :: rest) a w:=by
 have e:((#[(0,x),(1,y)]:Array (Nat×Operand)).map fun (i,x)=>(i,a.eval x)).toList=[(0,.agg (ivA (n :: c))),(1,.map (some b))]:=by simp [hx,hy]
 refine wpList_build hg _ _ ho (by rw [e,built_run n b c hc];rfl) ?_
 rw [e,built_run n b c hc]
 exact h
theorem wpList_store_run (hgd:o.guard=none) (x y:Operand) (ho:o.op=.store 68 x y) (g:Nat) (n:Int) (c:List Int) (b:Nat) (hc:c.length=60) (hx:a.eval x=.pointer (some ⟨g,0,none⟩)) (hy:a.eval y=.agg (runA n c b)) (hb:w.heap[g]?=some (.cells runZ 68 (0,0)))
  (h:∀ w',w'.heap[g]?=some (.cells (runA n c b) 68 (0,0))→Only [g] w w'→wpList Try.prog ops Q rest (a.put o.dst undef) w'):wpList Try.prog ops Q (o :: rest) a w:=
 Go.Proofs.Ytiaeagpepfmfgaa.wpList_store_row hgd _ x y ho g _ hx hy _ _ hb (size_runA hc) (by rw [runA_size hc];rfl) runA_one (h _ (heap_row _ hb) ((Only.refl [g] w).setRow (.inl (by simp)) _))
end
end Go.Proofs.Ytiaeagpepfmfgaa
