/- page: pages in memory: values, blocks, what '==' says of two. -/
import Derived.Test.YthacfanfhdjmbaaP1
import Derived.ChangeKeysEq
namespace Go.Proofs.Ythacfanfhdjmbaa
open Go.RowKit Go.Maps
set_option linter.unusedSimpArgs false
set_option linter.unusedVariables false

def ivA (l : List Int) : Array Value := (iv l).toArray
theorem ivA_size (l : List Int) : (ivA l).size = l.length := by simp [ivA, iv]
theorem ivA_get (l : List Int) (i : Nat) : (ivA l)[i]? = (l[i]?).map (Value.int .i64) := by simp [ivA, iv]
theorem ivA_one (l : List Int) : (ivA l).all (·.oneCell') = true := by simp [ivA, iv, Value.oneCell']
theorem ivA_set (l : List Int) (i : Nat) (z : Int) : (ivA l).setIfInBounds i (.int .i64 z) = ivA (l.set i z) := by simp [ivA, iv, List.map_set]
theorem ivA_extract (l : List Int) (i j : Nat) : (ivA l).extract i j = ivA ((l.take j).drop i) := by
  simp [ivA, iv, List.extract_eq_take_drop, List.drop_take, List.map_take, List.map_drop]
theorem ivA_inj {a b : List Int} (h : ivA a = ivA b) : a = b := by
  have h' : a.map (Value.int .i64) = b.map (Value.int .i64) := by simpa [ivA, iv] using h
  exact (List.map_inj_right (fun x y e => by cases e; rfl)).1 h'

/-- A block of integers: a page, or its cells. -/
def PB (w : World) (g : Nat) (t : TypeId) (l : List Int) : Prop := w.heap[g]? = some (.cells (ivA l) t (0, 0))
section
variable {w w' : World} {g : Nat} {t : TypeId} {l : List Int}
theorem PB.kept {S : List Nat} (h : PB w g t l) (ho : Only S w w') (hn : g ∉ S) : PB w' g t l := ho.heap h hn
theorem PB.lt (h : PB w g t l) : g < w.heap.size := lt_of_heap h
theorem PB.cell (h : PB w g t l) {i : Nat} {z : Int} (hi : l[i]? = some z) : w.cell? ⟨g, i, none⟩ = some (.int .i64 z) := by
  rw [cell_at i h, ivA_get, hi]
  rfl
theorem PB.free (h : PB w g t l) (i : Nat) : w.frozen? ⟨g, i, none⟩ = false := free_at i h
theorem PB.new (w : World) (t : TypeId) (l : List Int) : PB (w.alloc (.cells (ivA l) t)) w.heap.size t l := heap_new w _
theorem PB.set (h : PB w g t l) (i : Nat) (z : Int) : PB (w.setCell ⟨g, i, none⟩ (.int .i64 z)) g t (l.set i z) := by
  have := heap_cell (i := i) (.int .i64 z) h
  rw [ivA_set] at this
  exact this
theorem PB.row (h : PB w g t l) (m : List Int) : PB (w.setRow g (ivA m)) g t m := heap_row _ h
end

/-! ### '==' -/
theorem eqItems_int {P : Program} {e : TypeId} (he : P.underlying e = some (.int .i64)) (d : Nat) (xs ys : List Int) (w : World) : ∀ (is : List Nat), (∀ i ∈ is, i < xs.length ∧ i < ys.length) →
    (Op.eqItems (d + 1) e 1 (ivA xs) (ivA ys) is).run P w = .ok (is.all fun i => xs.getD i 0 == ys.getD i 0) w
  | [], _ => by simp [Op.eqItems]
  | i :: is, h => by
    obtain ⟨h1, h2⟩ := h i (by simp)
    have ih := eqItems_int he d xs ys w is (fun j hj => h j (by simp [hj]))
    have px : (part e (ivA xs) (i * 1)).run P w = .ok (.int .i64 (xs.getD i 0)) w := by
      simp [part, isAgg, run_underlying he, ivA_get, List.getD, List.getElem?_eq_getElem h1]
    have py : (part e (ivA ys) (i * 1)).run P w = .ok (.int .i64 (ys.getD i 0)) w := by
      simp [part, isAgg, run_underlying he, ivA_get, List.getD, List.getElem?_eq_getElem h2]
    simp only [Op.eqItems, Sem.run_bind, px, py, run_equalIn_int w d e .i64 .i64 _ _ he, Result.andThen_ok, List.all_cons]
    cases hb : (xs.getD i 0 == ys.getD i 0)
    · simp
    · simp only [Bool.not_true, Bool.false_eq_true, if_false, Bool.true_and]
      exact ih
theorem all_getD (xs ys : List Int) (n : Nat) (hx : xs.length = n) (hy : ys.length = n) : ((List.range n).all fun i => xs.getD i 0 == ys.getD i 0) = decide (xs = ys) := by
  rw [Bool.eq_iff_iff]
  simp only [List.all_eq_true, List.mem_range, beq_iff_eq, decide_eq_true_eq]
  constructor
  · intro h
    apply List.ext_getElem (by omega)
    intro i h1 h2
    have := h i (by omega)
    simpa [List.getD, List.getElem?_eq_getElem h1, List.getElem?_eq_getElem h2] using this
  · rintro rfl i _
    rfl
theorem info_cells : (Try.prog.info? 25).map (fun i => (i.zero, i.size)) = some (some (.agg (ivA (List.replicate 60 0))), 60) := by kernel_rfl
theorem info_page : (Try.prog.info? 27).map (fun i => (i.zero, i.size)) = some (some (.agg (ivA (List.replicate 61 0))), 61) := by kernel_rfl
theorem size_cells (l : List Int) (h : l.length = 60) : (Try.prog.info? 25).map (·.size) = some (ivA l).size := by
  rw [ivA_size, h]
  kernel_rfl
theorem size_page (l : List Int) (h : l.length = 61) : (Try.prog.info? 27).map (·.size) = some (ivA l).size := by
  rw [ivA_size, h]
  kernel_rfl
theorem cells_of_int : Try.prog.cellsOf 3 = 1 := by kernel_rfl
theorem equal_cells (d : Nat) (xs ys : List Int) (hx : xs.length = 60) (hy : ys.length = 60) (w : World) :
    (Op.equalIn (d + 2) 25 (.agg (ivA xs)) (.agg (ivA ys))).run Try.prog w = .ok (decide (xs = ys)) w := by
  obtain ⟨i, hi, -⟩ := Option.map_eq_some_iff.1 info_int
  rw [run_equalIn_array w (d + 1) (ivA xs) (ivA ys) Try.underlying25 hi, cells_of_int, eqItems_int Try.underlying3 d xs ys w _ (fun i hi => by simp at hi; omega), all_getD xs ys 60 hx hy]
theorem fields_page : (Try.prog.fieldsOf 27).toList.map (fun f => (f.name == "_", f.type, f.offset)) = [(false, 3, 0), (false, 25, 1)] := by kernel_rfl
theorem part_int (l : List Int) (n : Int) (w : World) : (part 3 (ivA (n :: l)) 0).run Try.prog w = .ok (.int .i64 n) w := by
  simp [part, isAgg, run_underlying Try.underlying3, ivA_get]
theorem size_run {P : Program} {t : TypeId} {n : Nat} (h : (P.info? t).map (·.size) = some n) (w : World) : (sizeOf t).run P w = .ok n w := by
  cases hi : P.info? t with
  | none => simp [hi] at h
  | some i =>
    simp [hi] at h
    simp [sizeOf, typeInfo, hi, h]
theorem part_cells (l : List Int) (h : l.length = 60) (n : Int) (w : World) : (part 25 (ivA (n :: l)) 1).run Try.prog w = .ok (.agg (ivA l)) w := by
  have hs := size_run (w := w) (size_cells l h)
  rw [ivA_size, h] at hs
  have e : (ivA (n :: l)).extract 1 (1 + 60) = ivA l := by
    rw [ivA_extract]
    congr 1
    rw [List.take_of_length_le (by simp; omega)]
    rfl
  simp [part, isAgg, run_underlying Try.underlying25, hs, e]
theorem equal_page (d : Nat) (n m : Int) (xs ys : List Int) (hx : xs.length = 60) (hy : ys.length = 60) (w : World) :
    (Op.equalIn (d + 3) 27 (.agg (ivA (n :: xs))) (.agg (ivA (m :: ys)))).run Try.prog w = .ok (decide (n = m) && decide (xs = ys)) w := by
  rw [run_equalIn_struct w (d + 2) 27 _ _ (by kernel_rfl) (by kernel_rfl)]
  have hf := fields_page
  generalize (Try.prog.fieldsOf 27).toList = fs at hf ⊢
  rcases fs with _ | ⟨f, _ | ⟨g, _ | ⟨x, r⟩⟩⟩
  · simp at hf
  · simp at hf
  · simp only [List.map_cons, List.map_nil, List.cons.injEq, Prod.mk.injEq, beq_eq_false_iff_ne, ne_eq, and_true] at hf
    obtain ⟨⟨f1, f2, f3⟩, g1, g2, g3⟩ := hf
    simp only [Op.eqFields, ne_eq, f1, g1, not_false_eq_true, if_true, f2, f3, g2, g3, Sem.run_bind, Sem.run_ite, part_int, part_cells _ hx, part_cells _ hy, Result.andThen_ok, run_equalIn_int w (d + 1) 3 .i64 .i64 _ _ Try.underlying3, equal_cells d _ _ hx hy]
    by_cases h : n = m
    · subst h
      by_cases h2 : xs = ys
      · simp [h2]
      · simp [h2]
    · simp [h]
  · simp at hf
theorem eql_page (n m : Int) (xs ys : List Int) (hx : xs.length = 60) (hy : ys.length = 60) (w : World) :
    (binOp .eql 27 (.agg (ivA (n :: xs))) (.agg (ivA (m :: ys)))).run Try.prog w = .ok (.bool (decide (n = m) && decide (xs = ys))) w := by
  rw [run_eql_struct, equal_page 9997 n m xs ys hx hy]
  rfl
theorem neq_page (n m : Int) (xs ys : List Int) (hx : xs.length = 60) (hy : ys.length = 60) (w : World) :
    (binOp .neq 27 (.agg (ivA (n :: xs))) (.agg (ivA (m :: ys)))).run Try.prog w = .ok (.bool (!(decide (n = m) && decide (xs = ys)))) w := by
  rw [run_neq_struct, equal_page 9997 n m xs ys hx hy]
  rfl
theorem neq_cells (xs ys : List Int) (hx : xs.length = 60) (hy : ys.length = 60) (w : World) :
    (binOp .neq 25 (.agg (ivA xs)) (.agg (ivA ys))).run Try.prog w = .ok (.bool (!decide (xs = ys))) w := by
  rw [run_neq_struct, equal_cells 9998 xs ys hx hy]
  rfl
theorem guard_page : Try.prog.eqGuardType Try.prog.depth 27 = false := by kernel_rfl
theorem guard_cells : Try.prog.eqGuardType Try.prog.depth 25 = false := by kernel_rfl

/-! ### operations on blocks -/
theorem zero_cells (w : World) : (zeroValue 25).run Try.prog w = .ok (.agg (ivA (List.replicate 60 0))) w := by
  obtain ⟨i, hi, hz⟩ := Option.map_eq_some_iff.1 info_cells
  simp only [Prod.mk.injEq] at hz
  simp [zeroValue, typeInfo, hi, hz.1]
theorem zero_page (w : World) : (zeroValue 27).run Try.prog w = .ok (.agg (ivA (List.replicate 61 0))) w := by
  obtain ⟨i, hi, hz⟩ := Option.map_eq_some_iff.1 info_page
  simp only [Prod.mk.injEq] at hz
  simp [zeroValue, typeInfo, hi, hz.1]
section
variable {w : World} {ops : Array Oper} {rest : List Oper} {o : Oper} {a : Act} {Q : Exit → Act → World → Prop}
theorem wpList_new_page (hg : o.guard = none) (hop : o.op = .alloc 27)
    (h : ∀ w' g, PB w' g 27 (List.replicate 61 0) → w.heap.size ≤ g → Only [] w w' → wpList Try.prog ops Q rest (a.put o.dst (.pointer (some ⟨g, 0, none⟩))) w') : wpList Try.prog ops Q (o :: rest) a w :=
  wpList_alloc_row hg _ hop _ zero_page (h _ _ (PB.new _ _ _) (Nat.le_refl _) ((Only.refl [] w).alloc _))
theorem wpList_box_page (hg : o.guard = none) (x : Operand) (hop : o.op = .box 27 x) (l : List Int) (hx : a.eval x = .agg (ivA l))
    (h : ∀ w' g, PB w' g 27 l → w.heap.size ≤ g → Only [] w w' → wpList Try.prog ops Q rest (a.put o.dst (.pointer (some ⟨g, 0, none⟩))) w') : wpList Try.prog ops Q (o :: rest) a w := by
  refine wpList_run hg (.pointer (some ⟨w.heap.size, 0, none⟩)) ?_ (h (w.alloc (.cells (ivA l) 27)) _ (PB.new _ _ _) (Nat.le_refl _) ((Only.refl [] w).alloc _))
  simp [execOp, hop, hx, Instr.box, newVar, newRow, newObj, Value.cells, Result.andThen]
  rfl
theorem wpList_new_cells (hg : o.guard = none) (hop : o.op = .alloc 25)
    (h : ∀ w' g, PB w' g 25 (List.replicate 60 0) → w.heap.size ≤ g → Only [] w w' → wpList Try.prog ops Q rest (a.put o.dst (.pointer (some ⟨g, 0, none⟩))) w') : wpList Try.prog ops Q (o :: rest) a w :=
  wpList_alloc_row hg _ hop _ zero_cells (h _ _ (PB.new _ _ _) (Nat.le_refl _) ((Only.refl [] w).alloc _))
theorem wpList_box_cells (hg : o.guard = none) (x : Operand) (hop : o.op = .box 25 x) (l : List Int) (hx : a.eval x = .agg (ivA l))
    (h : ∀ w' g, PB w' g 25 l → w.heap.size ≤ g → Only [] w w' → wpList Try.prog ops Q rest (a.put o.dst (.pointer (some ⟨g, 0, none⟩))) w') : wpList Try.prog ops Q (o :: rest) a w := by
  refine wpList_run hg (.pointer (some ⟨w.heap.size, 0, none⟩)) ?_ (h (w.alloc (.cells (ivA l) 25)) _ (PB.new _ _ _) (Nat.le_refl _) ((Only.refl [] w).alloc _))
  simp [execOp, hop, hx, Instr.box, newVar, newRow, newObj, Value.cells, Result.andThen]
  rfl
theorem wpList_load_page (hgd : o.guard = none) (x : Operand) (ho : o.op = .load 27 x) (g : Nat) (hx : a.eval x = .pointer (some ⟨g, 0, none⟩)) (l : List Int) (hb : PB w g 27 l) (hl : l.length = 61)
    (h : wpList Try.prog ops Q rest (a.put o.dst (.agg (ivA l))) w) : wpList Try.prog ops Q (o :: rest) a w :=
  wpList_load_row hgd _ x ho g hx _ _ _ _ hb Try.underlying27 rfl (size_page l hl) h
theorem wpList_load_cells (hgd : o.guard = none) (x : Operand) (ho : o.op = .load 25 x) (g : Nat) (hx : a.eval x = .pointer (some ⟨g, 0, none⟩)) (l : List Int) (hb : PB w g 25 l) (hl : l.length = 60)
    (h : wpList Try.prog ops Q rest (a.put o.dst (.agg (ivA l))) w) : wpList Try.prog ops Q (o :: rest) a w :=
  wpList_load_row hgd _ x ho g hx _ _ _ _ hb Try.underlying25 rfl (size_cells l hl) h
theorem wpList_store_page (hgd : o.guard = none) (x y : Operand) (ho : o.op = .store 27 x y) (g : Nat) (m : List Int) (hx : a.eval x = .pointer (some ⟨g, 0, none⟩)) (hy : a.eval y = .agg (ivA m)) (hm : m.length = 61) (l : List Int) (hb : PB w g 27 l) (hl : l.length = 61)
    (h : ∀ w', PB w' g 27 m → Only [g] w w' → wpList Try.prog ops Q rest (a.put o.dst undef) w') : wpList Try.prog ops Q (o :: rest) a w :=
  Go.Proofs.Ythacfanfhdjmbaa.wpList_store_row hgd _ x y ho g _ hx hy _ _ hb (size_page m hm) (by rw [ivA_size, ivA_size]; omega) (ivA_one m) (h _ (hb.row m) ((Only.refl [g] w).setRow (.inl (by simp)) _))
theorem wpList_store_cells (hgd : o.guard = none) (x y : Operand) (ho : o.op = .store 25 x y) (g : Nat) (m : List Int) (hx : a.eval x = .pointer (some ⟨g, 0, none⟩)) (hy : a.eval y = .agg (ivA m)) (hm : m.length = 60) (l : List Int) (hb : PB w g 25 l) (hl : l.length = 60)
    (h : ∀ w', PB w' g 25 m → Only [g] w w' → wpList Try.prog ops Q rest (a.put o.dst undef) w') : wpList Try.prog ops Q (o :: rest) a w :=
  Go.Proofs.Ythacfanfhdjmbaa.wpList_store_row hgd _ x y ho g _ hx hy _ _ hb (size_cells m hm) (by rw [ivA_size, ivA_size]; omega) (ivA_one m) (h _ (hb.row m) ((Only.refl [g] w).setRow (.inl (by simp)) _))
/-- A page's cells, loaded out of its block. -/
theorem run_load_mid {g : Nat} {n : Int} {l : List Int} (hb : PB w g 27 (n :: l)) (hl : l.length = 60) : (loadVar 25 ⟨g, 1, none⟩).run Try.prog w = .ok (.agg (ivA l)) w := by
  have h1 : (loadCells ⟨g, 1, none⟩ (iv l).length).run Try.prog w = .ok (iv l).toArray w :=
    run_loadCells_list (P := Try.prog) w ⟨g, 1, none⟩ (iv l) (fun j v hv => by
      have hadd : (⟨g, 1, none⟩ : Addr).add j = ⟨g, 1 + j, none⟩ := by unfold Addr.add; split <;> simp_all
      rw [hadd, cell_at _ hb, ivA_get, Nat.add_comm, List.getElem?_cons_succ]
      simpa [iv] using hv)
  have hs := size_run (w := w) (size_cells l hl)
  rw [ivA_size] at hs
  rw [iv_length, hl] at h1
  rw [hl] at hs
  simp [loadVar, isAgg, run_underlying Try.underlying25, hs, h1, ivA]
theorem wpList_load_mid (hgd : o.guard = none) (x : Operand) (ho : o.op = .load 25 x) (g : Nat) (hx : a.eval x = .pointer (some ⟨g, 1, none⟩)) (n : Int) (l : List Int) (hb : PB w g 27 (n :: l)) (hl : l.length = 60)
    (h : wpList Try.prog ops Q rest (a.put o.dst (.agg (ivA l))) w) : wpList Try.prog ops Q (o :: rest) a w := by
  refine wpList_run hgd (.agg (ivA l)) ?_ h
  simp [execOp, ho, hx, Instr.loadAt, Instr.sureAddr, run_load_mid hb hl, Result.andThen]
end

/-! ### what is handed back -/
theorem load_page {w : World} {g : Nat} {l : List Int} (hb : PB w g 27 l) (hl : l.length = 61) : (loadVar 27 ⟨g, 0, none⟩).run Try.prog w = .ok (.agg (ivA l)) w :=
  run_loadVar_row w g _ _ _ _ _ hb Try.underlying27 rfl (size_page l hl)
theorem load_cells {w : World} {g : Nat} {l : List Int} (hb : PB w g 25 l) (hl : l.length = 60) : (loadVar 25 ⟨g, 0, none⟩).run Try.prog w = .ok (.agg (ivA l)) w :=
  run_loadVar_row w g _ _ _ _ _ hb Try.underlying25 rfl (size_cells l hl)
theorem results_page {fn : Func} {p : Tmp} (h : fn.results = #[.cell p 27]) (tmps : Array Value) (w : World) (g : Nat) (l : List Int) (hp : tmps.getD p undef = .pointer (some ⟨g, 0, none⟩)) (hb : PB w g 27 l) (hl : l.length = 61) :
    (results fn tmps).run Try.prog w = .ok (.agg (ivA l)) w := results_cell_row h _ _ g _ _ _ _ hp hb Try.underlying27 rfl (size_page l hl)
theorem results_cells {fn : Func} {p : Tmp} (h : fn.results = #[.cell p 25]) (tmps : Array Value) (w : World) (g : Nat) (l : List Int) (hp : tmps.getD p undef = .pointer (some ⟨g, 0, none⟩)) (hb : PB w g 25 l) (hl : l.length = 60) :
    (results fn tmps).run Try.prog w = .ok (.agg (ivA l)) w := results_cell_row h _ _ g _ _ _ _ hp hb Try.underlying25 rfl (size_cells l hl)
theorem results_page2 {fn : Func} {p q : Tmp} (h : fn.results = #[.cell p 27, .tmp q]) (tmps : Array Value) (w : World) (g : Nat) (l : List Int) (v : Value) (hp : tmps.getD p undef = .pointer (some ⟨g, 0, none⟩)) (hq : tmps.getD q undef = v) (hb : PB w g 27 l) (hl : l.length = 61) :
    (results fn tmps).run Try.prog w = .ok (.tuple #[.agg (ivA l), v]) w := by
  have hp' : tmps[p]?.getD undef = .pointer (some ⟨g, 0, none⟩) := by simpa using hp
  have hq' : tmps[q]?.getD undef = v := by simpa using hq
  simp [results, h, hp', hq', asAddr, load_page hb hl, Result.andThen]

end Go.Proofs.Ythacfanfhdjmbaa
