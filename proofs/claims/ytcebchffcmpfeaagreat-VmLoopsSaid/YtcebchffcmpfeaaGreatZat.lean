import Derived.Test.YtcebchffcmpfeaaGreatKbt
import Derived.ChangeKeysEq
namespace Go.Proofs.YtcebchffcmpfeaaGreat
set_option linter.unusedVariables false
set_option linter.unusedSimpArgs false
set_option maxRecDepth 100000
set_option maxHeartbeats 16000000
open Go.RowKit Go.Maps
abbrev In64 (z:Int):Prop:=-9223372036854775808≤z∧z≤9223372036854775807
def blankP:List Int:=List.replicate 60 0
def ivA (l:List Int):Array Value:=(iv l).toArray
theorem bH (l:List Int):(ivA l).size=l.length:=by simp [ivA,iv]
theorem ii (l:List Int) (i:Nat):(ivA l)[i]?=(l[i]?).map (Value.int .i64):=by simp [ivA,iv]
theorem vE (l:List Int):(ivA l).all (·.oneCell')=true:=by simp [ivA,iv,Value.oneCell']
theorem ivA_set (l:List Int) (i:Nat) (z:Int):(ivA l).setIfInBounds i (.int .i64 z)=ivA (l.set i z):=by simp [ivA,iv,List.map_set]
theorem pZ (l:List Int) (i j:Nat):(ivA l).extract i j=ivA ((l.take j).drop i):=by
 simp [ivA,iv,List.extract_eq_take_drop,List.drop_take,List.map_take,List.map_drop]
def PB (w:World) (g:Nat) (t:TypeId) (l:List Int):Prop:=w.heap[g]?=some (.cells (ivA l) t (0,0))
section
variable {w w':World} {g:Nat} {t:TypeId} {l:List Int}
theorem PB.kept {S:List Nat} (h:PB w g t l) (ho:Only S w w') (hn:g∉S):PB w' g t l:=ho.heap h hn
theorem PB.lt (h:PB w g t l):g < w.heap.size:=ak h
theorem PB.cell (h:PB w g t l) {i:Nat} {z:Int} (hi:l[i]?=some z):w.cell? ⟨g,i,none⟩=some (.int .i64 z):=by
 rw [ab i h,ii,hi];rfl
theorem PB.free (h:PB w g t l) (i:Nat):w.frozen? ⟨g,i,none⟩=false:=ae i h
theorem PB.new (w:World) (t:TypeId) (l:List Int):PB (w.alloc (.cells (ivA l) t)) w.heap.size t l:=ag w _
theorem PB.set (h:PB w g t l) (i:Nat) (z:Int):PB (w.setCell ⟨g,i,none⟩ (.int .i64 z)) g t (l.set i z):=by
 have:=af (i:=i) (.int .i64 z) h;rw [ivA_set] at this;exact this
theorem PB.row (h:PB w g t l) (m:List Int):PB (w.setRow g (ivA m)) g t m:=iX _ h
end
theorem jE {P:Program} {e:TypeId} (he:P.underlying e=some (.int .i64)) (d:Nat) (xs ys:List Int) (w:World):∀ (is:List Nat),(∀ i∈is,i < xs.length∧i < ys.length)→
  (Op.eqItems (d+1) e 1 (ivA xs) (ivA ys) is).run P w=.ok (is.all fun i=>xs.getD i 0 == ys.getD i 0) w
 | [],_=>by simp [Op.eqItems]
 | i :: is,h=>by
  obtain ⟨h1,h2⟩:=h i (by simp);have ih:=jE he d xs ys w is (fun j hj=>h j (by simp [hj]));have px:(part e (ivA xs) (i*1)).run P w=.ok (.int .i64 (xs.getD i 0)) w:=by
   simp [part,isAgg,run_underlying he,ii,List.getD,List.getElem?_eq_getElem h1]
  have py:(part e (ivA ys) (i*1)).run P w=.ok (.int .i64 (ys.getD i 0)) w:=by
   simp [part,isAgg,run_underlying he,ii,List.getD,List.getElem?_eq_getElem h2]
  simp only [Op.eqItems,Sem.run_bind,px,py,run_equalIn_int w d e .i64 .i64 _ _ he,Result.andThen_ok,List.all_cons];cases hb:(xs.getD i 0 == ys.getD i 0)
  ·simp
  ·simp only [Bool.not_true,Bool.false_eq_true,if_false,Bool.true_and];exact ih
theorem all_getD (xs ys:List Int) (n:Nat) (hx:xs.length=n) (hy:ys.length=n):((List.range n).all fun i=>xs.getD i 0 == ys.getD i 0)=decide (xs=ys):=by
 rw [Bool.eq_iff_iff];simp only [List.all_eq_true,List.mem_range,beq_iff_eq,decide_eq_true_eq];constructor
 ·intro h;apply List.ext_getElem (by omega);intro i h1 h2;have:=h i (by omega);simpa [List.getD,List.getElem?_eq_getElem h1,List.getElem?_eq_getElem h2] using this
 ·rintro rfl i _;rfl
theorem vF:(Tryz.prog.info? 33).map (fun i=>(i.zero,i.size))=some (some (.agg (ivA (List.replicate 61 0))),61):=by kernel_rfl
theorem k8 (l:List Int) (h:l.length=60):(Tryz.prog.info? 31).map (·.size)=some (ivA l).size:=by
 rw [bH,h];kernel_rfl
theorem bN (l:List Int) (h:l.length=61):(Tryz.prog.info? 33).map (·.size)=some (ivA l).size:=by
 rw [bH,h];kernel_rfl
theorem nk:Tryz.prog.cellsOf 3=1:=by kernel_rfl
theorem p6 (d:Nat) (xs ys:List Int) (hx:xs.length=60) (hy:ys.length=60) (w:World) :
  (Op.equalIn (d+2) 31 (.agg (ivA xs)) (.agg (ivA ys))).run Tryz.prog w=.ok (decide (xs=ys)) w:=by
 obtain ⟨i,hi,-⟩:=Option.map_eq_some_iff.1 qJ;rw [run_equalIn_array w (d+1) (ivA xs) (ivA ys) Tryz.underlying31 hi,nk,jE Tryz.underlying3 d xs ys w _ (fun i hi=>by simp at hi;omega),all_getD xs ys 60 hx hy]
theorem p9:(Tryz.prog.fieldsOf 33).toList.map (fun f=>(f.name == "_",f.type,f.offset))=[(false,3,0),(false,31,1)]:=by kernel_rfl
theorem part_int (l:List Int) (n:Int) (w:World):(part 3 (ivA (n :: l)) 0).run Tryz.prog w=.ok (.int .i64 n) w:=by
 simp [part,isAgg,run_underlying Tryz.underlying3,ii]
theorem rl {P:Program} {t:TypeId} {n:Nat} (h:(P.info? t).map (·.size)=some n) (w:World):(sizeOf t).run P w=.ok n w:=by
 cases hi:P.info? t with
 | none=>simp [hi] at h
 | some i=>
  simp [hi] at h;simp [sizeOf,typeInfo,hi,h]
theorem la (l:List Int) (h:l.length=60) (n:Int) (w:World):(part 31 (ivA (n :: l)) 1).run Tryz.prog w=.ok (.agg (ivA l)) w:=by
 have hs:=rl (w:=w) (k8 l h);rw [bH,h] at hs;have e:(ivA (n :: l)).extract 1 (1+60)=ivA l:=by
  rw [pZ,show (n :: l).take (1+60)=n :: l from List.take_of_length_le (by rw [List.length_cons,h];decide)];rfl
 simp [part,isAgg,run_underlying Tryz.underlying31,hs,e]
theorem sV (d:Nat) (n m:Int) (xs ys:List Int) (hx:xs.length=60) (hy:ys.length=60) (w:World) :
  (Op.equalIn (d+3) 33 (.agg (ivA (n :: xs))) (.agg (ivA (m :: ys)))).run Tryz.prog w=.ok (decide (n=m) && decide (xs=ys)) w:=by
 rw [run_equalIn_struct w (d+2) 33 _ _ (by kernel_rfl) (by kernel_rfl)];have hf:=p9;generalize (Tryz.prog.fieldsOf 33).toList=fs at hf⊢;rcases fs with _ | ⟨f,_ | ⟨g,_ | ⟨x,r⟩⟩⟩
 ·simp at hf
 ·simp at hf
 ·simp only [List.map_cons,List.map_nil,List.cons.injEq,Prod.mk.injEq,beq_eq_false_iff_ne,ne_eq,and_true] at hf;obtain ⟨⟨f1,f2,f3⟩,g1,g2,g3⟩:=hf;simp only [Op.eqFields,ne_eq,f1,g1,not_false_eq_true,if_true,f2,f3,g2,g3,Sem.run_bind,Sem.run_ite,part_int,la _ hx,la _ hy,Result.andThen_ok,run_equalIn_int w (d+1) 3 .i64 .i64 _ _ Tryz.underlying3,p6 d _ _ hx hy]
  by_cases h:n=m
  ·subst h
   by_cases h2:xs=ys
   ·simp [h2]
   ·simp [h2]
  ·simp [h]
 ·simp at hf
theorem eql_page (n m:Int) (xs ys:List Int) (hx:xs.length=60) (hy:ys.length=60) (w:World) :
  (binOp .eql 33 (.agg (ivA (n :: xs))) (.agg (ivA (m :: ys)))).run Tryz.prog w=.ok (.bool (decide (n=m) && decide (xs=ys))) w:=by
 rw [run_eql_struct,sV 9997 n m xs ys hx hy];rfl
theorem sW:Tryz.prog.eqGuardType Tryz.prog.depth 33=false:=by kernel_rfl
theorem vG (w:World):(zeroValue 33).run Tryz.prog w=.ok (.agg (ivA (List.replicate 61 0))) w:=by
 obtain ⟨i,hi,hz⟩:=Option.map_eq_some_iff.1 vF;simp only [Prod.mk.injEq] at hz;simp [zeroValue,typeInfo,hi,hz.1]
section
variable {w:World} {ops:Array Oper} {rest:List Oper} {o:Oper} {a:Act} {Q:Exit→Act→World→Prop}
theorem aJ (hg:o.guard=none) (hop:o.op=.alloc 33)
  (h:∀ w' g,PB w' g 33 (List.replicate 61 0)→w.heap.size≤g→Only [] w w'→wpList Tryz.prog ops Q rest (a.put o.dst (.pointer (some ⟨g,0,none⟩))) w'):wpList Tryz.prog ops Q (o :: rest) a w:=
 d8 hg _ hop _ vG (h _ _ (PB.new _ _ _) (Nat.le_refl _) ((Only.refl [] w).alloc _))
theorem bw (hg:o.guard=none) (x:Operand) (hop:o.op=.box 33 x) (l:List Int) (hx:a.eval x=.agg (ivA l))
  (h:∀ w' g,PB w' g 33 l→w.heap.size≤g→Only [] w w'→wpList Tryz.prog ops Q rest (a.put o.dst (.pointer (some ⟨g,0,none⟩))) w'):wpList Tryz.prog ops Q (o :: rest) a w:=by
 refine gV hg (.pointer (some ⟨w.heap.size,0,none⟩)) ?_ (h (w.alloc (.cells (ivA l) 33)) _ (PB.new _ _ _) (Nat.le_refl _) ((Only.refl [] w).alloc _));simp [execOp,hop,hx,Instr.box,newVar,newRow,newObj,Value.cells,Result.andThen];rfl
theorem aF (hgd:o.guard=none) (x:Operand) (ho:o.op=.load 33 x) (g:Nat) (hx:a.eval x=.pointer (some ⟨g,0,none⟩)) (l:List Int) (hb:PB w g 33 l) (hl:l.length=61)
  (h:wpList Tryz.prog ops Q rest (a.put o.dst (.agg (ivA l))) w):wpList Tryz.prog ops Q (o :: rest) a w:=
 wpList_load_row hgd _ x ho g hx _ _ _ _ hb Tryz.underlying33 rfl (bN l hl) h
theorem aw (hgd:o.guard=none) (x y:Operand) (ho:o.op=.store 33 x y) (g:Nat) (m:List Int) (hx:a.eval x=.pointer (some ⟨g,0,none⟩)) (hy:a.eval y=.agg (ivA m)) (hm:m.length=61) (l:List Int) (hb:PB w g 33 l) (hl:l.length=61)
  (h:∀ w',PB w' g 33 m→Only [g] w w'→wpList Tryz.prog ops Q rest (a.put o.dst undef) w'):wpList Tryz.prog ops Q (o :: rest) a w:=
 Go.Proofs.YtcebchffcmpfeaaGreat.wpList_store_row hgd _ x y ho g _ hx hy _ _ hb (bN m hm) (by rw [bH,bH];omega) (vE m) (h _ (hb.row m) ((Only.refl [g] w).setRow (.inl (by simp)) _))
theorem no {g:Nat} {n:Int} {l:List Int} (hb:PB w g 33 (n :: l)) (hl:l.length=60):(loadVar 31 ⟨g,1,none⟩).run Tryz.prog w=.ok (.agg (ivA l)) w:=by
 have h1:(loadCells ⟨g,1,none⟩ (iv l).length).run Tryz.prog w=.ok (iv l).toArray w:=
  run_loadCells_list (P:=Tryz.prog) w ⟨g,1,none⟩ (iv l) (fun j v hv=>by
   have hadd:(⟨g,1,none⟩:Addr).add j=⟨g,1+j,none⟩:=by unfold Addr.add;split<;>simp_all
   rw [hadd,ab _ hb,ii,Nat.add_comm,List.getElem?_cons_succ]
   simpa [iv] using hv)
 have hs:=rl (w:=w) (k8 l hl);rw [bH] at hs;rw [aB,hl] at h1;rw [hl] at hs;simp [loadVar,isAgg,run_underlying Tryz.underlying31,hs,h1,ivA]
theorem wpList_load_mid (hgd:o.guard=none) (x:Operand) (ho:o.op=.load 31 x) (g:Nat) (hx:a.eval x=.pointer (some ⟨g,1,none⟩)) (n:Int) (l:List Int) (hb:PB w g 33 (n :: l)) (hl:l.length=60)
  (h:wpList Tryz.prog ops Q rest (a.put o.dst (.agg (ivA l))) w):wpList Tryz.prog ops Q (o :: rest) a w:=by
 refine gV hgd (.agg (ivA l)) ?_ h;simp [execOp,ho,hx,Instr.loadAt,Instr.sureAddr,no hb hl,Result.andThen]
end
theorem np {w:World} {g:Nat} {l:List Int} (hb:PB w g 33 l) (hl:l.length=61):(loadVar 33 ⟨g,0,none⟩).run Tryz.prog w=.ok (.agg (ivA l)) w:=
 run_loadVar_row w g _ _ _ _ _ hb Tryz.underlying33 rfl (bN l hl)
theorem iD {fn:Func} {p:Tmp} (h:fn.results=#[.cell p 33]) (tmps:Array Value) (w:World) (g:Nat) (l:List Int) (hp:tmps.getD p undef=.pointer (some ⟨g,0,none⟩)) (hb:PB w g 33 l) (hl:l.length=61) :
  (results fn tmps).run Tryz.prog w=.ok (.agg (ivA l)) w:=results_cell_row h _ _ g _ _ _ _ hp hb Tryz.underlying33 rfl (bN l hl)
theorem gh {fn:Func} {p q:Tmp} (h:fn.results=#[.cell p 33,.tmp q]) (tmps:Array Value) (w:World) (g:Nat) (l:List Int) (v:Value) (hp:tmps.getD p undef=.pointer (some ⟨g,0,none⟩)) (hq:tmps.getD q undef=v) (hb:PB w g 33 l) (hl:l.length=61) :
  (results fn tmps).run Tryz.prog w=.ok (.tuple #[.agg (ivA l),v]) w:=by
 have hp':tmps[p]?.getD undef=.pointer (some ⟨g,0,none⟩):=by simpa using hp
 have hq':tmps[q]?.getD undef=v:=by simpa using hq
 simp [results,h,hp',hq',asAddr,np hb hl,Result.andThen]
theorem ij (k:Int) (w:World) (h0:-9223372036854775808≤k) (h1:k≤9223372036854775807) :
  Calls Tryz.prog 122 #[.int .i64 k] w fun e w'=>e=.returned (.bool (decide (0≤k∧k < 60)))∧w=w':=by
 by_cases hk:0≤k
 ·go_enter Tryz.func122,Tryz.ntmps122
  go_wp2
  go_ret;exact ⟨am (by simp [hk]),rfl⟩
 ·go_enter Tryz.func122,Tryz.ntmps122
  go_wp2
  go_ret;exact ⟨am (by simp;omega),rfl⟩
theorem Get_yes (n:Int) (c:List Int) (k:Nat) (z:Int) (w:World) (hk:k < 60) (hz:c[k]?=some z) :
  Calls Tryz.prog 106 #[.agg (ivA (n :: c)),.int .i64 (k:Int)] w fun e w'=>e=.returned (.tuple #[.int .i64 z,.bool true])∧Only [] w w':=by
 have hb:=PB.new w 33 (n :: c);have ho:Only [] w (w.alloc (.cells (ivA (n :: c)) 33)):=(Only.refl [] w).alloc _;have hcell:(w.alloc (.cells (ivA (n :: c)) 33)).cell? ⟨w.heap.size,1+k,none⟩=some (.int .i64 z):=hb.cell (by rw [Nat.add_comm,List.getElem?_cons_succ];exact hz);have HO:=Hd ho;clear hb ho hz
 go_enter Tryz.func106,Tryz.ntmps106
 go_wp2_with fail
 refine (ij k _ (by omega) (by omega)).mono ?_;rintro e w1 ⟨rfl,rfl⟩;have hd:decide (0≤(k:Int)∧(k:Int) < 60)=true:=by simp;omega
 rw [hd];clear hd
 go_wp2
 go_ret2
 exact ⟨rfl,HO.out⟩
theorem Get_no (l:List Int) (k:Int) (w:World) (h0:-9223372036854775808≤k) (h1:k≤9223372036854775807) (hk:¬ (0≤k∧k < 60)) :
  Calls Tryz.prog 106 #[.agg (ivA l),.int .i64 k] w fun e w'=>e=.returned (.tuple #[.int .i64 0,.bool false])∧Only [] w w':=by
 have ho:Only [] w (w.alloc (.cells (ivA l) 33)):=(Only.refl [] w).alloc _;have HO:=Hd ho;clear ho
 go_enter Tryz.func106,Tryz.ntmps106
 go_wp2_with fail
 refine (ij k _ h0 h1).mono ?_;rintro e w1 ⟨rfl,rfl⟩;have hd:decide (0≤k∧k < 60)=false:=by simp only [decide_eq_false_iff_not];exact hk
 rw [hd];clear hd hk
 go_wp2
 go_ret2
 exact ⟨rfl,HO.out⟩
theorem cf:Tryz.prog.built 33 []=some (ivA (0 :: blankP)):=by kernel_rfl
theorem vH (n:Int):Tryz.prog.built 33 [(0,.int .i64 n)]=some (ivA (n :: blankP)):=by kernel_rfl
section
variable {w:World} {ops:Array Oper} {rest:List Oper} {o:Oper} {a:Act} {Q:Exit→Act→World→Prop}
theorem cr (hg:o.guard=none) (ps:List (Nat×Operand)) (ho:o.op=.build 33 ps.toArray) (l:List Int) (hl:Tryz.prog.built 33 (ps.map fun x=>(x.1,a.eval x.2))=some (ivA l))
  (h:wpList Tryz.prog ops Q rest (a.put o.dst (.agg (ivA l))) w):wpList Tryz.prog ops Q (o :: rest) a w:=by
 have e:(ps.toArray.map fun (i,x)=>(i,a.eval x)).toList=ps.map fun x=>(x.1,a.eval x.2):=by simp
 refine wpList_build hg _ ps.toArray ho (by rw [e,hl];rfl) ?_;rw [e,hl];exact h
end
def fil (l:List Int) (i:Nat):Int:=l.getD (i % l.length) 0
def iR (l:List Int) (k:Nat):List Int:=(List.range 60).map fun i=>if i < k then fil l i else 0
theorem bz (l:List Int) (k:Nat):(iR l k).length=60:=by simp [iR]
theorem filC_set (l:List Int) (k:Nat) (hk:k < 60):(iR l k).set k (fil l k)=iR l (k+1):=by
 apply List.ext_getElem (by simp [iR]);intro i h1 h2;simp only [iR,List.getElem_set,List.getElem_map,List.getElem_range]
 by_cases hi:k=i
 ·subst hi;simp
 ·simp only [if_neg hi]
  by_cases h:i < k
  ·rw [if_pos h,if_pos (by omega)]
  ·rw [if_neg h,if_neg (by omega)]
theorem fil_nil (i:Nat):fil [] i=0:=by simp [fil]
theorem rm (k:Nat):iR [] k=blankP:=by
 apply List.ext_getElem (by simp [iR,blankP]);intro i h1 h2;simp only [iR,blankP,List.getElem_map,List.getElem_range,fil_nil,ite_self,List.getElem_replicate]
theorem vI (l:List Int):iR l 0=blankP:=by
 apply List.ext_getElem (by simp [iR,blankP]);intro i h1 h2;simp only [iR,blankP,List.getElem_map,List.getElem_range,Nat.not_lt_zero,if_false,List.getElem_replicate]
theorem filC_in {l:List Int} (h:∀ z∈l,In64 z) (k:Nat):∀ z∈iR l k,In64 z:=by
 intro z hz;simp only [iR,List.mem_map] at hz;obtain ⟨i,-,rfl⟩:=hz;split
 ·unfold fil
  by_cases hi:i % l.length < l.length
  ·rw [List.getD_eq_getElem?_getD,List.getElem?_eq_getElem hi];exact h _ (List.getElem_mem hi)
  ·rw [List.getD_eq_getElem?_getD,List.getElem?_eq_none (by omega)];exact ⟨by decide,by decide⟩
 ·exact ⟨by decide,by decide⟩
def n64 (z:Int):Prop:=-9223372036854775808≤z∧z≤9223372036854775807
theorem gj (z:Int):n64 (wrap64 z):=by unfold n64 wrap64;omega
theorem a7:n64 0:=by unfold n64;omega
theorem vJ:n64 1:=by unfold n64;omega
theorem ro {z:Int} (h:n64 z):(Lit.int .i64 z).wf=true:=by
 unfold n64 at h;simp only [Lit.wf,Bool.and_eq_true,decide_eq_true_eq];exact h
def tr (p:Prop) [Decidable p]:Int:=if p then 1 else 0
def opV (nm:Sec) (a b:Int):Int:=
 if nm=[43] then wrap64 (a+b) else if nm=[45] then wrap64 (a - b) else if nm=[42] then wrap64 (a*b)
 else if nm=[47] then (if b=0 then 0 else wrap64 (a.tdiv b)) else if nm=[37] then (if b=0 then 0 else wrap64 (a.tmod b))
 else if nm=[60] then tr (a < b) else if nm=[60,61] then tr (a≤b) else if nm=[62] then tr (b < a) else if nm=[62,61] then tr (b≤a)
 else if nm=[61,61] then tr (a=b) else if nm=[33,61] then tr (a≠b)
 else if nm=[38,38] then tr (a≠0∧b≠0) else if nm=[124,124] then tr (a≠0∨b≠0) else 0
theorem nr (a:Int) {b:Int} (hb:n64 b) (h:b≠0):wrap64 (a.tmod b)=a.tmod b:=by
 have h1:(a.tmod b).natAbs < b.natAbs:=by rw [Int.natAbs_tmod];exact Nat.mod_lt _ (by omega)
 unfold n64 at hb;unfold wrap64;omega
def bI (b:Bool):Int:=if b=true then 1 else 0
theorem be (b:Bool) (w:World):Calls Tryz.prog 134 #[.bool b] w fun e w'=>e=.returned (.int .i64 (bI b))∧w=w':=by
 cases b
 ·go_enter Tryz.func134,Tryz.ntmps134
  go_wp2
  go_ret;exact ⟨rfl,rfl⟩
 ·go_enter Tryz.func134,Tryz.ntmps134
  go_wp2
  go_ret;exact ⟨rfl,rfl⟩
theorem vK (a b:Int):opV [43] a b=wrap64 (a+b):=by simp [opV]
theorem vL (a b:Int):opV [45] a b=wrap64 (a - b):=by simp [opV]
theorem vM (a b:Int):opV [42] a b=wrap64 (a*b):=by simp [opV]
theorem rq (a:Int):opV [47] a 0=0:=by simp [opV]
theorem vN (a:Int) {b:Int} (h:b≠0):opV [47] a b=wrap64 (a.tdiv b):=by simp [opV,h]
theorem rr (a:Int):opV [37] a 0=0:=by simp [opV]
theorem vO (a:Int) {b:Int} (h:b≠0):opV [37] a b=wrap64 (a.tmod b):=by simp [opV,h]
theorem opV_lt (a b:Int):opV [60] a b=bI (decide (a < b)):=by simp [opV,tr,bI]
theorem opV_le (a b:Int):opV [60,61] a b=bI (decide (a≤b)):=by simp [opV,tr,bI]
theorem opV_gt (a b:Int):opV [62] a b=bI (decide (b < a)):=by simp [opV,tr,bI]
theorem opV_ge (a b:Int):opV [62,61] a b=bI (decide (b≤a)):=by simp [opV,tr,bI]
theorem opV_eq (a b:Int):opV [61,61] a b=bI (a == b):=by simp [opV,tr,bI]
theorem opV_ne (a b:Int):opV [33,61] a b=bI (a != b):=by simp [opV,tr,bI]
theorem l6 (a b:Int):opV [38,38] a b=bI (a != 0 && b != 0):=by simp [opV,tr,bI]
theorem rt (a b:Int):opV [124,124] a b=bI (a != 0 || b != 0):=by simp [opV,tr,bI]
theorem jF (s:ByteArray) (a b:Int) (w:World) (hn:n64 b) (hs:s.data.toList∈oX) :
  Calls Tryz.prog 135 #[.string s,.int .i64 a,.int .i64 b] w fun e w'=>e=.returned (.tuple #[.int .i64 (opV s.data.toList a b),.bool true])∧w=w':=by
 simp only [oX,List.mem_cons,List.not_mem_nil,or_false] at hs;rcases hs with h | h | h | h | h | h | h | h | h | h | h | h | h<;>obtain rfl:=bk.2 h<;>clear h
 ·by_cases ha:a=0
  ·subst ha;have hv:opV [124,124] 0 b=bI (b != 0):=by rw [rt,show ((0:Int) != 0)=false from rfl,Bool.false_or]
   generalize opV _ _ _=T at hv⊢
   go_enter Tryz.func135,Tryz.ntmps135
   (go_wp2_with fail);refine (be _ _).mono ?_;rintro e w1 ⟨rfl,rfl⟩;rw [← hv];clear hv;go_wp2_with fail
   go_ret2
   exact ⟨rfl,rfl⟩
  ·have ha':(a != 0)=true:=by simpa using ha
   have hv:opV [124,124] a b=bI true:=by rw [rt,ha',Bool.true_or]
   generalize opV _ _ _=T at hv⊢
   go_enter Tryz.func135,Tryz.ntmps135
   (go_wp2_with fail);refine (be _ _).mono ?_;rintro e w1 ⟨rfl,rfl⟩;rw [← hv];clear hv;go_wp2_with fail
   go_ret2
   exact ⟨rfl,rfl⟩
 ·by_cases ha:a=0
  ·subst ha;have hv:opV [38,38] 0 b=bI false:=by rw [l6,show ((0:Int) != 0)=false from rfl,Bool.false_and]
   generalize opV _ _ _=T at hv⊢
   go_enter Tryz.func135,Tryz.ntmps135
   (go_wp2_with fail);refine (be _ _).mono ?_;rintro e w1 ⟨rfl,rfl⟩;rw [← hv];clear hv;go_wp2_with fail
   go_ret2
   exact ⟨rfl,rfl⟩
  ·have ha':(a != 0)=true:=by simpa using ha
   have hv:opV [38,38] a b=bI (b != 0):=by rw [l6,ha',Bool.true_and]
   generalize opV _ _ _=T at hv⊢
   go_enter Tryz.func135,Tryz.ntmps135
   (go_wp2_with fail);refine (be _ _).mono ?_;rintro e w1 ⟨rfl,rfl⟩;rw [← hv];clear hv;go_wp2_with fail
   go_ret2
   exact ⟨rfl,rfl⟩
 ·have hv:=opV_lt a b;generalize opV _ _ _=T at hv⊢
  go_enter Tryz.func135,Tryz.ntmps135
  go_wp2_with fail
  refine (be _ _).mono ?_;rintro e w1 ⟨rfl,rfl⟩;rw [← hv];clear hv;go_wp2_with fail
  go_ret2
  exact ⟨rfl,rfl⟩
 ·have hv:=opV_le a b;generalize opV _ _ _=T at hv⊢
  go_enter Tryz.func135,Tryz.ntmps135
  go_wp2_with fail
  refine (be _ _).mono ?_;rintro e w1 ⟨rfl,rfl⟩;rw [← hv];clear hv;go_wp2_with fail
  go_ret2
  exact ⟨rfl,rfl⟩
 ·have hv:=opV_gt a b;generalize opV _ _ _=T at hv⊢
  go_enter Tryz.func135,Tryz.ntmps135
  go_wp2_with fail
  refine (be _ _).mono ?_;rintro e w1 ⟨rfl,rfl⟩;rw [← hv];clear hv;go_wp2_with fail
  go_ret2
  exact ⟨rfl,rfl⟩
 ·have hv:=opV_ge a b;generalize opV _ _ _=T at hv⊢
  go_enter Tryz.func135,Tryz.ntmps135
  go_wp2_with fail
  refine (be _ _).mono ?_;rintro e w1 ⟨rfl,rfl⟩;rw [← hv];clear hv;go_wp2_with fail
  go_ret2
  exact ⟨rfl,rfl⟩
 ·have hv:=opV_eq a b;generalize opV _ _ _=T at hv⊢
  go_enter Tryz.func135,Tryz.ntmps135
  go_wp2_with fail
  refine (be _ _).mono ?_;rintro e w1 ⟨rfl,rfl⟩;rw [← hv];clear hv;go_wp2_with fail
  go_ret2
  exact ⟨rfl,rfl⟩
 ·have hv:=opV_ne a b;generalize opV _ _ _=T at hv⊢
  go_enter Tryz.func135,Tryz.ntmps135
  go_wp2_with fail
  refine (be _ _).mono ?_;rintro e w1 ⟨rfl,rfl⟩;rw [← hv];clear hv;go_wp2_with fail
  go_ret2
  exact ⟨rfl,rfl⟩
 ·have hv:=vK a b
  go_enter Tryz.func135,Tryz.ntmps135
  go_wp2_with fail
  go_ret2
  exact ⟨by rw [hv]<;>rfl,rfl⟩
 ·have hv:=vL a b
  go_enter Tryz.func135,Tryz.ntmps135
  go_wp2_with fail
  go_ret2
  exact ⟨by rw [hv]<;>rfl,rfl⟩
 ·have hv:=vM a b
  go_enter Tryz.func135,Tryz.ntmps135
  go_wp2_with fail
  go_ret2
  exact ⟨by rw [hv]<;>rfl,rfl⟩
 ·by_cases hb:b=0
  ·subst hb;have hv:=rq a
   go_enter Tryz.func135,Tryz.ntmps135
   go_wp2_with fail
   go_ret2
   exact ⟨by rw [hv]<;>rfl,rfl⟩
  ·have hv:=vN a hb;have hb':(b == 0)=false:=by simpa using hb
   go_enter Tryz.func135,Tryz.ntmps135
   go_wp2_with fail
   go_ret2
   exact ⟨by rw [hv]<;>rfl,rfl⟩
 ·by_cases hb:b=0
  ·subst hb;have hv:=rr a
   go_enter Tryz.func135,Tryz.ntmps135
   go_wp2_with fail
   go_ret2
   exact ⟨by rw [hv]<;>rfl,rfl⟩
  ·have hv:=vO a hb;rw [nr a hn hb] at hv;have hb':(b == 0)=false:=by simpa using hb
   go_enter Tryz.func135,Tryz.ntmps135
   go_wp2_with fail
   go_ret2
   exact ⟨by rw [hv]<;>rfl,rfl⟩
end Go.Proofs.YtcebchffcmpfeaaGreat
