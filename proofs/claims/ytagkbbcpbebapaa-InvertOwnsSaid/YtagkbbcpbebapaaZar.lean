import Derived.Test.YtagkbbcpbebapaaKbr
import Derived.ChangeKeysEq
import Derived.BigQuiet
namespace Go.Proofs.Ytagkbbcpbebapaa
open Go.RowKit Go.Maps
set_option linter.unusedSimpArgs false
set_option linter.unusedVariables false
abbrev In64 (z:Int):Prop:=-9223372036854775808≤z∧z≤9223372036854775807
def blankP:List Int:=List.replicate 60 0
def ivA (l:List Int):Array Value:=(iv l).toArray
theorem ivA_size (l:List Int):(ivA l).size=l.length:=by simp [ivA,iv]
theorem ivA_get (l:List Int) (i:Nat):(ivA l)[i]?=(l[i]?).map (Value.int .i64):=by simp [ivA,iv]
theorem ivA_one (l:List Int):(ivA l).all (·.oneCell')=true:=by simp [ivA,iv,Value.oneCell']
theorem ivA_set (l:List Int) (i:Nat) (z:Int):(ivA l).setIfInBounds i (.int .i64 z)=ivA (l.set i z):=by simp [ivA,iv,List.map_set]
theorem ivA_extract (l:List Int) (i j:Nat):(ivA l).extract i j=ivA ((l.take j).drop i):=by
 simp [ivA,iv,List.extract_eq_take_drop,List.drop_take,List.map_take,List.map_drop]
def PB (w:World) (g:Nat) (t:TypeId) (l:List Int):Prop:=w.heap[g]?=some (.cells (ivA l) t (0,0))
section
variable {w w':World} {g:Nat} {t:TypeId} {l:List Int}
theorem PB.kept {S:List Nat} (h:PB w g t l) (ho:Only S w w') (hn:g∉S):PB w' g t l:=ho.heap h hn
theorem PB.lt (h:PB w g t l):g < w.heap.size:=lt_of_heap h
theorem PB.cell (h:PB w g t l) {i:Nat} {z:Int} (hi:l[i]?=some z):w.cell? ⟨g,i,none⟩=some (.int .i64 z):=by
 rw [cell_at i h,ivA_get,hi]
 rfl
theorem PB.free (h:PB w g t l) (i:Nat):w.frozen? ⟨g,i,none⟩=false:=free_at i h
theorem PB.new (w:World) (t:TypeId) (l:List Int):PB (w.alloc (.cells (ivA l) t)) w.heap.size t l:=heap_new w _
theorem PB.set (h:PB w g t l) (i:Nat) (z:Int):PB (w.setCell ⟨g,i,none⟩ (.int .i64 z)) g t (l.set i z):=by
 have:=heap_cell (i:=i) (.int .i64 z) h
 rw [ivA_set] at this
 exact this
theorem PB.row (h:PB w g t l) (m:List Int):PB (w.setRow g (ivA m)) g t m:=heap_row _ h
end
theorem eqItems_int {P:Program} {e:TypeId} (he:P.underlying e=some (.int .i64)) (d:Nat) (xs ys:List Int) (w:World):∀ (is:List Nat),(∀ i∈is,i < xs.length∧i < ys.length)→
  (Op.eqItems (d+1) e 1 (ivA xs) (ivA ys) is).run P w=.ok (is.all fun i=>xs.getD i 0 == ys.getD i 0) w
 | [],_=>by simp [Op.eqItems]
 | i :: is,h=>by
  obtain ⟨h1,h2⟩:=h i (by simp)
  have ih:=eqItems_int he d xs ys w is (fun j hj=>h j (by simp [hj]))
  have px:(part e (ivA xs) (i*1)).run P w=.ok (.int .i64 (xs.getD i 0)) w:=by
   simp [part,isAgg,run_underlying he,ivA_get,List.getD,List.getElem?_eq_getElem h1]
  have py:(part e (ivA ys) (i*1)).run P w=.ok (.int .i64 (ys.getD i 0)) w:=by
   simp [part,isAgg,run_underlying he,ivA_get,List.getD,List.getElem?_eq_getElem h2]
  simp only [Op.eqItems,Sem.run_bind,px,py,run_equalIn_int w d e .i64 .i64 _ _ he,Result.andThen_ok,List.all_cons]
  cases hb:(xs.getD i 0 == ys.getD i 0)
  ·simp
  ·simp only [Bool.not_true,Bool.false_eq_true,if_false,Bool.true_and]
   exact ih
theorem all_getD (xs ys:List Int) (n:Nat) (hx:xs.length=n) (hy:ys.length=n):((List.range n).all fun i=>xs.getD i 0 == ys.getD i 0)=decide (xs=ys):=by
 rw [Bool.eq_iff_iff]
 simp only [List.all_eq_true,List.mem_range,beq_iff_eq,decide_eq_true_eq]
 constructor
 ·intro h
  apply List.ext_getElem (by omega)
  intro i h1 h2
  have:=h i (by omega)
  simpa [List.getD,List.getElem?_eq_getElem h1,List.getElem?_eq_getElem h2] using this
 ·rintro rfl i _
  rfl
theorem info_page:(Try.prog.info? 45).map (fun i=>(i.zero,i.size))=some (some (.agg (ivA (List.replicate 61 0))),61):=by kernel_rfl
theorem size_cells (l:List Int) (h:l.length=60):(Try.prog.info? 43).map (·.size)=some (ivA l).size:=by
 rw [ivA_size,h]
 kernel_rfl
theorem size_page (l:List Int) (h:l.length=61):(Try.prog.info? 45).map (·.size)=some (ivA l).size:=by
 rw [ivA_size,h]
 kernel_rfl
theorem cells_of_int:Try.prog.cellsOf 3=1:=by kernel_rfl
theorem equal_cells (d:Nat) (xs ys:List Int) (hx:xs.length=60) (hy:ys.length=60) (w:World) :
  (Op.equalIn (d+2) 43 (.agg (ivA xs)) (.agg (ivA ys))).run Try.prog w=.ok (decide (xs=ys)) w:=by
 obtain ⟨i,hi,-⟩:=Option.map_eq_some_iff.1 info_int
 rw [run_equalIn_array w (d+1) (ivA xs) (ivA ys) Try.underlying43 hi,cells_of_int,eqItems_int Try.underlying3 d xs ys w _ (fun i hi=>by simp at hi;omega),all_getD xs ys 60 hx hy]
theorem fields_page:(Try.prog.fieldsOf 45).toList.map (fun f=>(f.name == "_",f.type,f.offset))=[(false,3,0),(false,43,1)]:=by kernel_rfl
theorem part_int (l:List Int) (n:Int) (w:World):(part 3 (ivA (n :: l)) 0).run Try.prog w=.ok (.int .i64 n) w:=by
 simp [part,isAgg,run_underlying Try.underlying3,ivA_get]
theorem size_run {P:Program} {t:TypeId} {n:Nat} (h:(P.info? t).map (·.size)=some n) (w:World):(sizeOf t).run P w=.ok n w:=by
 cases hi:P.info? t with
 | none=>simp [hi] at h
 | some i=>
  simp [hi] at h
  simp [sizeOf,typeInfo,hi,h]
theorem part_cells (l:List Int) (h:l.length=60) (n:Int) (w:World):(part 43 (ivA (n :: l)) 1).run Try.prog w=.ok (.agg (ivA l)) w:=by
 have hs:=size_run (w:=w) (size_cells l h)
 rw [ivA_size,h] at hs
 have e:(ivA (n :: l)).extract 1 (1+60)=ivA l:=by
  rw [ivA_extract,show (n :: l).take (1+60)=n :: l from List.take_of_length_le (by rw [List.length_cons,h];decide)]
  rfl
 simp [part,isAgg,run_underlying Try.underlying43,hs,e]
theorem equal_page (d:Nat) (n m:Int) (xs ys:List Int) (hx:xs.length=60) (hy:ys.length=60) (w:World) :
  (Op.equalIn (d+3) 45 (.agg (ivA (n :: xs))) (.agg (ivA (m :: ys)))).run Try.prog w=.ok (decide (n=m) && decide (xs=ys)) w:=by
 rw [run_equalIn_struct w (d+2) 45 _ _ (by kernel_rfl) (by kernel_rfl)]
 have hf:=fields_page
 generalize (Try.prog.fieldsOf 45).toList=fs at hf⊢
 rcases fs with _ | ⟨f,_ | ⟨g,_ | ⟨x,r⟩⟩⟩
 ·simp at hf
 ·simp at hf
 ·simp only [List.map_cons,List.map_nil,List.cons.injEq,Prod.mk.injEq,beq_eq_false_iff_ne,ne_eq,and_true] at hf
  obtain ⟨⟨f1,f2,f3⟩,g1,g2,g3⟩:=hf
  simp only [Op.eqFields,ne_eq,f1,g1,not_false_eq_true,if_true,f2,f3,g2,g3,Sem.run_bind,Sem.run_ite,part_int,part_cells _ hx,part_cells _ hy,Result.andThen_ok,run_equalIn_int w (d+1) 3 .i64 .i64 _ _ Try.underlying3,equal_cells d _ _ hx hy]
  by_cases h:n=m
  ·subst h
   by_cases h2:xs=ys
   ·simp [h2]
   ·simp [h2]
  ·simp [h]
 ·simp at hf
theorem eql_page (n m:Int) (xs ys:List Int) (hx:xs.length=60) (hy:ys.length=60) (w:World) :
  (binOp .eql 45 (.agg (ivA (n :: xs))) (.agg (ivA (m :: ys)))).run Try.prog w=.ok (.bool (decide (n=m) && decide (xs=ys))) w:=by
 rw [run_eql_struct,equal_page 9997 n m xs ys hx hy]
 rfl
theorem neq_page (n m:Int) (xs ys:List Int) (hx:xs.length=60) (hy:ys.length=60) (w:World) :
  (binOp .neq 45 (.agg (ivA (n :: xs))) (.agg (ivA (m :: ys)))).run Try.prog w=.ok (.bool (!(decide (n=m) && decide (xs=ys)))) w:=by
 rw [run_neq_struct,equal_page 9997 n m xs ys hx hy]
 rfl
theorem guard_page:Try.prog.eqGuardType Try.prog.depth 45=false:=by kernel_rfl
theorem zero_page (w:World):(zeroValue 45).run Try.prog w=.ok (.agg (ivA (List.replicate 61 0))) w:=by
 obtain ⟨i,hi,hz⟩:=Option.map_eq_some_iff.1 info_page
 simp only [Prod.mk.injEq] at hz
 simp [zeroValue,typeInfo,hi,hz.1]
section
variable {w:World} {ops:Array Oper} {rest:List Oper} {o:Oper} {a:Act} {Q:Exit→Act→World→Prop}
theorem wpList_new_page (hg:o.guard=none) (hop:o.op=.alloc 45)
  (h:∀ w' g,PB w' g 45 (List.replicate 61 0)→w.heap.size≤g→Only [] w w'→wpList Try.prog ops Q rest (a.put o.dst (.pointer (some ⟨g,0,none⟩))) w'):wpList Try.prog ops Q (o :: rest) a w:=
 wpList_alloc_row hg _ hop _ zero_page (h _ _ (PB.new _ _ _) (Nat.le_refl _) ((Only.refl [] w).alloc _))
theorem wpList_box_page (hg:o.guard=none) (x:Operand) (hop:o.op=.box 45 x) (l:List Int) (hx:a.eval x=.agg (ivA l))
  (h:∀ w' g,PB w' g 45 l→w.heap.size≤g→Only [] w w'→wpList Try.prog ops Q rest (a.put o.dst (.pointer (some ⟨g,0,none⟩))) w'):wpList Try.prog ops Q (o :: rest) a w:=by
 refine wpList_run hg (.pointer (some ⟨w.heap.size,0,none⟩)) ?_ (h (w.alloc (.cells (ivA l) 45)) _ (PB.new _ _ _) (Nat.le_refl _) ((Only.refl [] w).alloc _))
 simp [execOp,hop,hx,Instr.box,newVar,newRow,newObj,Value.cells,Result.andThen]
 rfl
theorem wpList_load_page (hgd:o.guard=none) (x:Operand) (ho:o.op=.load 45 x) (g:Nat) (hx:a.eval x=.pointer (some ⟨g,0,none⟩)) (l:List Int) (hb:PB w g 45 l) (hl:l.length=61)
  (h:wpList Try.prog ops Q rest (a.put o.dst (.agg (ivA l))) w):wpList Try.prog ops Q (o :: rest) a w:=
 wpList_load_row hgd _ x ho g hx _ _ _ _ hb Try.underlying45 rfl (size_page l hl) h
theorem wpList_store_page (hgd:o.guard=none) (x y:Operand) (ho:o.op=.store 45 x y) (g:Nat) (m:List Int) (hx:a.eval x=.pointer (some ⟨g,0,none⟩)) (hy:a.eval y=.agg (ivA m)) (hm:m.length=61) (l:List Int) (hb:PB w g 45 l) (hl:l.length=61)
  (h:∀ w',PB w' g 45 m→Only [g] w w'→wpList Try.prog ops Q rest (a.put o.dst undef) w'):wpList Try.prog ops Q (o :: rest) a w:=
 Go.Proofs.Ytagkbbcpbebapaa.wpList_store_row hgd _ x y ho g _ hx hy _ _ hb (size_page m hm) (by rw [ivA_size,ivA_size];omega) (ivA_one m) (h _ (hb.row m) ((Only.refl [g] w).setRow (.inl (by simp)) _))
end
theorem load_page {w:World} {g:Nat} {l:List Int} (hb:PB w g 45 l) (hl:l.length=61):(loadVar 45 ⟨g,0,none⟩).run Try.prog w=.ok (.agg (ivA l)) w:=
 run_loadVar_row w g _ _ _ _ _ hb Try.underlying45 rfl (size_page l hl)
theorem results_page {fn:Func} {p:Tmp} (h:fn.results=#[.cell p 45]) (tmps:Array Value) (w:World) (g:Nat) (l:List Int) (hp:tmps.getD p undef=.pointer (some ⟨g,0,none⟩)) (hb:PB w g 45 l) (hl:l.length=61) :
  (results fn tmps).run Try.prog w=.ok (.agg (ivA l)) w:=results_cell_row h _ _ g _ _ _ _ hp hb Try.underlying45 rfl (size_page l hl)
set_option maxRecDepth 100000 in
theorem isCell_any (k:Int) (w:World) (h0:-9223372036854775808≤k) (h1:k≤9223372036854775807) :
  Calls Try.prog 71 #[.int .i64 k] w fun e w'=>e=.returned (.bool (decide (0≤k∧k < 60)))∧w=w':=by
 by_cases hk:0≤k
 ·go_enter Try.func71,Try.ntmps71
  go_wp2
  go_ret
  exact ⟨ret_bool (by simp [hk]),rfl⟩
 ·go_enter Try.func71,Try.ntmps71
  go_wp2
  go_ret
  exact ⟨ret_bool (by simp;omega),rfl⟩
set_option maxRecDepth 100000 in
theorem Get_yes (n:Int) (c:List Int) (k:Nat) (z:Int) (w:World) (hk:k < 60) (hz:c[k]?=some z) :
  Calls Try.prog 47 #[.agg (ivA (n :: c)),.int .i64 (k:Int)] w fun e w'=>e=.returned (.tuple #[.int .i64 z,.bool true])∧Only [] w w':=by
 have hb:=PB.new w 45 (n :: c)
 have ho:Only [] w (w.alloc (.cells (ivA (n :: c)) 45)):=(Only.refl [] w).alloc _
 have hcell:(w.alloc (.cells (ivA (n :: c)) 45)).cell? ⟨w.heap.size,1+k,none⟩=some (.int .i64 z):=hb.cell (by rw [Nat.add_comm,List.getElem?_cons_succ];exact hz)
 have HO:=Hd ho
 clear hb ho hz
 go_enter Try.func47,Try.ntmps47
 go_wp2_with fail
 refine (isCell_any k _ (by omega) (by omega)).mono ?_
 rintro e w1 ⟨rfl,rfl⟩
 have hd:decide (0≤(k:Int)∧(k:Int) < 60)=true:=by simp;omega
 rw [hd]
 clear hd
 go_wp2
 go_ret2
 exact ⟨rfl,HO.out⟩
set_option maxRecDepth 100000 in
theorem Get_no (l:List Int) (k:Int) (w:World) (h0:-9223372036854775808≤k) (h1:k≤9223372036854775807) (hk:¬ (0≤k∧k < 60)) :
  Calls Try.prog 47 #[.agg (ivA l),.int .i64 k] w fun e w'=>e=.returned (.tuple #[.int .i64 0,.bool false])∧Only [] w w':=by
 have ho:Only [] w (w.alloc (.cells (ivA l) 45)):=(Only.refl [] w).alloc _
 have HO:=Hd ho
 clear ho
 go_enter Try.func47,Try.ntmps47
 go_wp2_with fail
 refine (isCell_any k _ h0 h1).mono ?_
 rintro e w1 ⟨rfl,rfl⟩
 have hd:decide (0≤k∧k < 60)=false:=by simp only [decide_eq_false_iff_not];exact hk
 rw [hd]
 clear hd hk
 go_wp2
 go_ret2
 exact ⟨rfl,HO.out⟩
theorem built_none:Try.prog.built 45 []=some (ivA (0 :: blankP)):=by kernel_rfl
theorem built_num (n:Int):Try.prog.built 45 [(0,.int .i64 n)]=some (ivA (n :: blankP)):=by kernel_rfl
section
variable {w:World} {ops:Array Oper} {rest:List Oper} {o:Oper} {a:Act} {Q:Exit→Act→World→Prop}
theorem wpList_built (hg:o.guard=none) (ps:List (Nat×Operand)) (ho:o.op=.build 45 ps.toArray) (l:List Int) (hl:Try.prog.built 45 (ps.map fun x=>(x.1,a.eval x.2))=some (ivA l))
  (h:wpList Try.prog ops Q rest (a.put o.dst (.agg (ivA l))) w):wpList Try.prog ops Q (o :: rest) a w:=by
 have e:(ps.toArray.map fun (i,x)=>(i,a.eval x)).toList=ps.map fun x=>(x.1,a.eval x.2):=by simp
 refine wpList_build hg _ ps.toArray ho (by rw [e,hl];rfl) ?_
 rw [e,hl]
 exact h
end
def fil (l:List Int) (i:Nat):Int:=l.getD (i % l.length) 0
def filC (l:List Int) (k:Nat):List Int:=(List.range 60).map fun i=>if i < k then fil l i else 0
theorem filC_length (l:List Int) (k:Nat):(filC l k).length=60:=by simp [filC]
theorem filC_set (l:List Int) (k:Nat) (hk:k < 60):(filC l k).set k (fil l k)=filC l (k+1):=by
 apply List.ext_getElem (by simp [filC])
 intro i h1 h2
 simp only [filC,List.getElem_set,List.getElem_map,List.getElem_range]
 by_cases hi:k=i
 ·subst hi
  simp
 ·simp only [if_neg hi]
  by_cases h:i < k
  ·rw [if_pos h,if_pos (by omega)]
  ·rw [if_neg h,if_neg (by omega)]
theorem fil_nil (i:Nat):fil [] i=0:=by simp [fil]
theorem filC_nil (k:Nat):filC [] k=blankP:=by
 apply List.ext_getElem (by simp [filC,blankP])
 intro i h1 h2
 simp only [filC,blankP,List.getElem_map,List.getElem_range,fil_nil,ite_self,List.getElem_replicate]
theorem filC_zero (l:List Int):filC l 0=blankP:=by
 apply List.ext_getElem (by simp [filC,blankP])
 intro i h1 h2
 simp only [filC,blankP,List.getElem_map,List.getElem_range,Nat.not_lt_zero,if_false,List.getElem_replicate]
theorem filC_in {l:List Int} (h:∀ z∈l,In64 z) (k:Nat):∀ z∈filC l k,In64 z:=by
 intro z hz
 simp only [filC,List.mem_map] at hz
 obtain ⟨i,-,rfl⟩:=hz
 split
 ·unfold fil
  by_cases hi:i % l.length < l.length
  ·rw [List.getD_eq_getElem?_getD,List.getElem?_eq_getElem hi]
   exact h _ (List.getElem_mem hi)
  ·rw [List.getD_eq_getElem?_getD,List.getElem?_eq_none (by omega)]
   exact ⟨by decide,by decide⟩
 ·exact ⟨by decide,by decide⟩
def n64 (z:Int):Prop:=-9223372036854775808≤z∧z≤9223372036854775807
theorem n64_wrap (z:Int):n64 (wrap64 z):=by unfold n64 wrap64;omega
theorem n64_zero:n64 0:=by unfold n64;omega
theorem n64_one:n64 1:=by unfold n64;omega
theorem n64_wf {z:Int} (h:n64 z):(Lit.int .i64 z).wf=true:=by
 unfold n64 at h
 simp only [Lit.wf,Bool.and_eq_true,decide_eq_true_eq]
 exact h
def tr (p:Prop) [Decidable p]:Int:=if p then 1 else 0
def opV (nm:Sec) (a b:Int):Int:=
 if nm=[43] then wrap64 (a+b) else if nm=[45] then wrap64 (a - b) else if nm=[42] then wrap64 (a*b)
 else if nm=[47] then (if b=0 then 0 else wrap64 (a.tdiv b)) else if nm=[37] then (if b=0 then 0 else wrap64 (a.tmod b))
 else if nm=[60] then tr (a < b) else if nm=[60,61] then tr (a≤b) else if nm=[62] then tr (b < a) else if nm=[62,61] then tr (b≤a)
 else if nm=[61,61] then tr (a=b) else if nm=[33,61] then tr (a≠b)
 else if nm=[38,38] then tr (a≠0∧b≠0) else if nm=[124,124] then tr (a≠0∨b≠0) else 0
theorem wrap_tmod (a:Int) {b:Int} (hb:n64 b) (h:b≠0):wrap64 (a.tmod b)=a.tmod b:=by
 have h1:(a.tmod b).natAbs < b.natAbs:=by rw [Int.natAbs_tmod];exact Nat.mod_lt _ (by omega)
 unfold n64 at hb
 unfold wrap64
 omega
end Go.Proofs.Ytagkbbcpbebapaa
namespace Go.Proofs.Ytagkbbcpbebapaa
open Go.RowKit Go.Maps
set_option linter.unusedSimpArgs false
set_option linter.unusedVariables false
def bI (b:Bool):Int:=if b=true then 1 else 0
theorem truth_any (b:Bool) (w:World):Calls Try.prog 48 #[.bool b] w fun e w'=>e=.returned (.int .i64 (bI b))∧w=w':=by
 cases b
 ·go_enter Try.func48,Try.ntmps48
  go_wp2
  go_ret
  exact ⟨rfl,rfl⟩
 ·go_enter Try.func48,Try.ntmps48
  go_wp2
  go_ret
  exact ⟨rfl,rfl⟩
theorem opV_add (a b:Int):opV [43] a b=wrap64 (a+b):=by simp [opV]
theorem opV_sub (a b:Int):opV [45] a b=wrap64 (a - b):=by simp [opV]
theorem opV_mul (a b:Int):opV [42] a b=wrap64 (a*b):=by simp [opV]
theorem opV_div0 (a:Int):opV [47] a 0=0:=by simp [opV]
theorem opV_div (a:Int) {b:Int} (h:b≠0):opV [47] a b=wrap64 (a.tdiv b):=by simp [opV,h]
theorem opV_mod0 (a:Int):opV [37] a 0=0:=by simp [opV]
theorem opV_mod (a:Int) {b:Int} (h:b≠0):opV [37] a b=wrap64 (a.tmod b):=by simp [opV,h]
theorem opV_lt (a b:Int):opV [60] a b=bI (decide (a < b)):=by simp [opV,tr,bI]
theorem opV_le (a b:Int):opV [60,61] a b=bI (decide (a≤b)):=by simp [opV,tr,bI]
theorem opV_gt (a b:Int):opV [62] a b=bI (decide (b < a)):=by simp [opV,tr,bI]
theorem opV_ge (a b:Int):opV [62,61] a b=bI (decide (b≤a)):=by simp [opV,tr,bI]
theorem opV_eq (a b:Int):opV [61,61] a b=bI (a == b):=by simp [opV,tr,bI]
theorem opV_ne (a b:Int):opV [33,61] a b=bI (a != b):=by simp [opV,tr,bI]
theorem opV_and (a b:Int):opV [38,38] a b=bI (a != 0 && b != 0):=by simp [opV,tr,bI]
theorem opV_or (a b:Int):opV [124,124] a b=bI (a != 0 || b != 0):=by simp [opV,tr,bI]
set_option maxRecDepth 100000 in
set_option maxHeartbeats 4000000 in
theorem operate_any (s:ByteArray) (a b:Int) (w:World) (hn:n64 b) (hs:s.data.toList∈ops7) :
  Calls Try.prog 49 #[.string s,.int .i64 a,.int .i64 b] w fun e w'=>e=.returned (.tuple #[.int .i64 (opV s.data.toList a b),.bool true])∧w=w':=by
 simp only [ops7,List.mem_cons,List.not_mem_nil,or_false] at hs
 rcases hs with h | h | h | h | h | h | h | h | h | h | h | h | h<;>obtain rfl:=str_eq_iff.2 h<;>clear h
 ·by_cases ha:a=0
  ·subst ha
   have hv:opV [124,124] 0 b=bI (b != 0):=by rw [opV_or,show ((0:Int) != 0)=false from rfl,Bool.false_or]
   generalize opV _ _ _=T at hv⊢
   go_enter Try.func49,Try.ntmps49
   go_wp2_with fail
   refine (truth_any _ _).mono ?_
   rintro e w1 ⟨rfl,rfl⟩
   rw [← hv]
   clear hv
   go_wp2_with fail
   go_ret2
   exact ⟨rfl,rfl⟩
  ·have ha':(a != 0)=true:=by simpa using ha
   have hv:opV [124,124] a b=bI true:=by rw [opV_or,ha',Bool.true_or]
   generalize opV _ _ _=T at hv⊢
   go_enter Try.func49,Try.ntmps49
   go_wp2_with fail
   refine (truth_any _ _).mono ?_
   rintro e w1 ⟨rfl,rfl⟩
   rw [← hv]
   clear hv
   go_wp2_with fail
   go_ret2
   exact ⟨rfl,rfl⟩
 ·by_cases ha:a=0
  ·subst ha
   have hv:opV [38,38] 0 b=bI false:=by rw [opV_and,show ((0:Int) != 0)=false from rfl,Bool.false_and]
   generalize opV _ _ _=T at hv⊢
   go_enter Try.func49,Try.ntmps49
   go_wp2_with fail
   refine (truth_any _ _).mono ?_
   rintro e w1 ⟨rfl,rfl⟩
   rw [← hv]
   clear hv
   go_wp2_with fail
   go_ret2
   exact ⟨rfl,rfl⟩
  ·have ha':(a != 0)=true:=by simpa using ha
   have hv:opV [38,38] a b=bI (b != 0):=by rw [opV_and,ha',Bool.true_and]
   generalize opV _ _ _=T at hv⊢
   go_enter Try.func49,Try.ntmps49
   go_wp2_with fail
   refine (truth_any _ _).mono ?_
   rintro e w1 ⟨rfl,rfl⟩
   rw [← hv]
   clear hv
   go_wp2_with fail
   go_ret2
   exact ⟨rfl,rfl⟩
 ·have hv:=opV_lt a b
  generalize opV _ _ _=T at hv⊢
  go_enter Try.func49,Try.ntmps49
  go_wp2_with fail
  refine (truth_any _ _).mono ?_
  rintro e w1 ⟨rfl,rfl⟩
  rw [← hv]
  clear hv
  go_wp2_with fail
  go_ret2
  exact ⟨rfl,rfl⟩
 ·have hv:=opV_le a b
  generalize opV _ _ _=T at hv⊢
  go_enter Try.func49,Try.ntmps49
  go_wp2_with fail
  refine (truth_any _ _).mono ?_
  rintro e w1 ⟨rfl,rfl⟩
  rw [← hv]
  clear hv
  go_wp2_with fail
  go_ret2
  exact ⟨rfl,rfl⟩
 ·have hv:=opV_gt a b
  generalize opV _ _ _=T at hv⊢
  go_enter Try.func49,Try.ntmps49
  go_wp2_with fail
  refine (truth_any _ _).mono ?_
  rintro e w1 ⟨rfl,rfl⟩
  rw [← hv]
  clear hv
  go_wp2_with fail
  go_ret2
  exact ⟨rfl,rfl⟩
 ·have hv:=opV_ge a b
  generalize opV _ _ _=T at hv⊢
  go_enter Try.func49,Try.ntmps49
  go_wp2_with fail
  refine (truth_any _ _).mono ?_
  rintro e w1 ⟨rfl,rfl⟩
  rw [← hv]
  clear hv
  go_wp2_with fail
  go_ret2
  exact ⟨rfl,rfl⟩
 ·have hv:=opV_eq a b
  generalize opV _ _ _=T at hv⊢
  go_enter Try.func49,Try.ntmps49
  go_wp2_with fail
  refine (truth_any _ _).mono ?_
  rintro e w1 ⟨rfl,rfl⟩
  rw [← hv]
  clear hv
  go_wp2_with fail
  go_ret2
  exact ⟨rfl,rfl⟩
 ·have hv:=opV_ne a b
  generalize opV _ _ _=T at hv⊢
  go_enter Try.func49,Try.ntmps49
  go_wp2_with fail
  refine (truth_any _ _).mono ?_
  rintro e w1 ⟨rfl,rfl⟩
  rw [← hv]
  clear hv
  go_wp2_with fail
  go_ret2
  exact ⟨rfl,rfl⟩
 ·have hv:=opV_add a b
  go_enter Try.func49,Try.ntmps49
  go_wp2_with fail
  go_ret2
  exact ⟨by rw [hv]<;>rfl,rfl⟩
 ·have hv:=opV_sub a b
  go_enter Try.func49,Try.ntmps49
  go_wp2_with fail
  go_ret2
  exact ⟨by rw [hv]<;>rfl,rfl⟩
 ·have hv:=opV_mul a b
  go_enter Try.func49,Try.ntmps49
  go_wp2_with fail
  go_ret2
  exact ⟨by rw [hv]<;>rfl,rfl⟩
 ·by_cases hb:b=0
  ·subst hb
   have hv:=opV_div0 a
   go_enter Try.func49,Try.ntmps49
   go_wp2_with fail
   go_ret2
   exact ⟨by rw [hv]<;>rfl,rfl⟩
  ·have hv:=opV_div a hb
   have hb':(b == 0)=false:=by simpa using hb
   go_enter Try.func49,Try.ntmps49
   go_wp2_with fail
   go_ret2
   exact ⟨by rw [hv]<;>rfl,rfl⟩
 ·by_cases hb:b=0
  ·subst hb
   have hv:=opV_mod0 a
   go_enter Try.func49,Try.ntmps49
   go_wp2_with fail
   go_ret2
   exact ⟨by rw [hv]<;>rfl,rfl⟩
  ·have hv:=opV_mod a hb
   rw [wrap_tmod a hn hb] at hv
   have hb':(b == 0)=false:=by simpa using hb
   go_enter Try.func49,Try.ntmps49
   go_wp2_with fail
   go_ret2
   exact ⟨by rw [hv]<;>rfl,rfl⟩
end Go.Proofs.Ytagkbbcpbebapaa
