/- page: isCell, Get; the law's filled. -/
import Derived.Test.YthacfanfhdjmbaaP2
namespace Go.Proofs.Ythacfanfhdjmbaa
open Go.RowKit Go.Maps
set_option linter.unusedSimpArgs false
set_option linter.unusedVariables false

set_option maxRecDepth 100000 in
theorem isCell_any (k : Int) (w : World) (h0 : -9223372036854775808 ≤ k) (h1 : k ≤ 9223372036854775807) :
    Calls Try.prog 34 #[.int .i64 k] w fun e w' => e = .returned (.bool (decide (0 ≤ k ∧ k < 60))) ∧ w = w' := by
  by_cases hk : 0 ≤ k
  · go_enter Try.func34, Try.ntmps34
    go_wp2
    go_ret
    exact ⟨ret_bool (by simp [hk]), rfl⟩
  · go_enter Try.func34, Try.ntmps34
    go_wp2
    go_ret
    exact ⟨ret_bool (by simp; omega), rfl⟩

set_option maxRecDepth 100000 in
theorem Get_yes (n : Int) (c : List Int) (k : Nat) (z : Int) (w : World) (hk : k < 60) (hz : c[k]? = some z) :
    Calls Try.prog 20 #[.agg (ivA (n :: c)), .int .i64 (k : Int)] w fun e w' => e = .returned (.tuple #[.int .i64 z, .bool true]) ∧ Only [] w w' := by
  have hb := PB.new w 27 (n :: c)
  have ho : Only [] w (w.alloc (.cells (ivA (n :: c)) 27)) := (Only.refl [] w).alloc _
  have hcell : (w.alloc (.cells (ivA (n :: c)) 27)).cell? ⟨w.heap.size, 1 + k, none⟩ = some (.int .i64 z) := hb.cell (by rw [Nat.add_comm, List.getElem?_cons_succ]; exact hz)
  have HO := Lib.hid ho
  clear hb ho hz
  go_enter Try.func20, Try.ntmps20
  go_wp2_with fail
  refine (isCell_any k _ (by omega) (by omega)).mono ?_
  rintro e w1 ⟨rfl, rfl⟩
  have hd : decide (0 ≤ (k : Int) ∧ (k : Int) < 60) = true := by simp; omega
  rw [hd]
  clear hd
  go_wp2
  go_ret2
  exact ⟨rfl, HO.out⟩
set_option maxRecDepth 100000 in
theorem Get_no (l : List Int) (k : Int) (w : World) (h0 : -9223372036854775808 ≤ k) (h1 : k ≤ 9223372036854775807) (hk : ¬ (0 ≤ k ∧ k < 60)) :
    Calls Try.prog 20 #[.agg (ivA l), .int .i64 k] w fun e w' => e = .returned (.tuple #[.int .i64 0, .bool false]) ∧ Only [] w w' := by
  have ho : Only [] w (w.alloc (.cells (ivA l) 27)) := (Only.refl [] w).alloc _
  have HO := Lib.hid ho
  clear ho
  go_enter Try.func20, Try.ntmps20
  go_wp2_with fail
  refine (isCell_any k _ h0 h1).mono ?_
  rintro e w1 ⟨rfl, rfl⟩
  have hd : decide (0 ≤ k ∧ k < 60) = false := by simp only [decide_eq_false_iff_not]; exact hk
  rw [hd]
  clear hd hk
  go_wp2
  go_ret2
  exact ⟨rfl, HO.out⟩

/-! ### pages built -/
theorem built_none : Try.prog.built 27 [] = some (ivA (0 :: blankP)) := by kernel_rfl
theorem built_num (n : Int) : Try.prog.built 27 [(0, .int .i64 n)] = some (ivA (n :: blankP)) := by kernel_rfl
theorem built_fn (n : Int) (f : Fin 60 → Int) : Try.prog.built 27 [(0, .int .i64 n), (1, .agg (ivA (List.ofFn f)))] = some (ivA (n :: List.ofFn f)) := by kernel_rfl
theorem built_whole (n : Int) (c : List Int) (hc : c.length = 60) : Try.prog.built 27 [(0, .int .i64 n), (1, .agg (ivA c))] = some (ivA (n :: c)) := by
  have h := built_fn n (fun i => c[i.1]'(by omega))
  have e : (List.ofFn fun i : Fin 60 => c[i.1]'(by omega)) = c := by
    apply List.ext_getElem (by rw [List.length_ofFn, hc])
    intro i h1 h2
    rw [List.getElem_ofFn]
  rw [e] at h
  exact h
section
variable {w : World} {ops : Array Oper} {rest : List Oper} {o : Oper} {a : Act} {Q : Exit → Act → World → Prop}
theorem wpList_built (hg : o.guard = none) (ps : List (Nat × Operand)) (ho : o.op = .build 27 ps.toArray) (l : List Int) (hl : Try.prog.built 27 (ps.map fun x => (x.1, a.eval x.2)) = some (ivA l))
    (h : wpList Try.prog ops Q rest (a.put o.dst (.agg (ivA l))) w) : wpList Try.prog ops Q (o :: rest) a w := by
  have e : (ps.toArray.map fun (i, x) => (i, a.eval x)).toList = ps.map fun x => (x.1, a.eval x.2) := by simp
  refine wpList_build hg _ ps.toArray ho (by rw [e, hl]; rfl) ?_
  rw [e, hl]
  exact h
end

/-- The law's page: some numbers, again and again. -/
def fil (l : List Int) (i : Nat) : Int := l.getD (i % l.length) 0
def filC (l : List Int) (k : Nat) : List Int := (List.range 60).map fun i => if i < k then fil l i else 0
theorem filC_length (l : List Int) (k : Nat) : (filC l k).length = 60 := by simp [filC]
theorem filC_set (l : List Int) (k : Nat) (hk : k < 60) : (filC l k).set k (fil l k) = filC l (k + 1) := by
  apply List.ext_getElem (by simp [filC])
  intro i h1 h2
  simp only [filC, List.getElem_set, List.getElem_map, List.getElem_range]
  by_cases hi : k = i
  · subst hi
    simp
  · simp only [if_neg hi]
    by_cases h : i < k
    · rw [if_pos h, if_pos (by omega)]
    · rw [if_neg h, if_neg (by omega)]
theorem fil_nil (i : Nat) : fil [] i = 0 := by simp [fil]
theorem filC_nil (k : Nat) : filC [] k = blankP := by
  apply List.ext_getElem (by simp [filC, blankP])
  intro i h1 h2
  simp only [filC, blankP, List.getElem_map, List.getElem_range, fil_nil, ite_self, List.getElem_replicate]
theorem filC_zero (l : List Int) : filC l 0 = blankP := by
  apply List.ext_getElem (by simp [filC, blankP])
  intro i h1 h2
  simp only [filC, blankP, List.getElem_map, List.getElem_range, Nat.not_lt_zero, if_false, List.getElem_replicate]
theorem filC_in {l : List Int} (h : ∀ z ∈ l, In64 z) (k : Nat) : ∀ z ∈ filC l k, In64 z := by
  intro z hz
  simp only [filC, List.mem_map] at hz
  obtain ⟨i, -, rfl⟩ := hz
  split
  · unfold fil
    by_cases hi : i % l.length < l.length
    · rw [List.getD_eq_getElem?_getD, List.getElem?_eq_getElem hi]
      exact h _ (List.getElem_mem hi)
    · rw [List.getD_eq_getElem?_getD, List.getElem?_eq_none (by omega)]
      exact ⟨by decide, by decide⟩
  · exact ⟨by decide, by decide⟩

set_option maxRecDepth 100000 in
theorem filled_any (n : Int) (v : Value) (l : List Int) (w : World) (hv : IntsV w v l) (hl : l.length ≤ 9223372036854775807) :
    Calls Try.prog 10 #[.int .i64 n, v] w fun e w' => e = .returned (.agg (ivA (n :: filC l 60))) ∧ Only [] w w' := by
  obtain ⟨a, cap, rfl, -⟩ := id hv
  have HV := Lib.hid hv
  clear hv
  have HZ := Lib.hid (filC_zero l)
  go_enter Try.func10, Try.ntmps10
  have T1 := trivial
  have T2 := trivial
  go_wp2_with (first
    | (clear T1
       refine wpList_new_page rfl rfl ?_
       intro w1 g1 hb1 hg1 ho1
       have HB1 := Lib.hid hb1
       have HG1 := Lib.hid hg1
       have HO1 := Lib.hid ho1
       clear hb1 hg1 ho1)
    | (refine wpList_built rfl [_] rfl (n :: blankP) (built_num n) ?_)
    | (clear T2
       refine wpList_new_page rfl rfl ?_
       intro w2 g2 hb2 hg2 ho2
       have HO2 := Lib.hid (HO1.out.trans ho2 (by simp))
       have HB1' := Lib.hid (HB1.out.kept ho2 (by simp))
       have hne : g1 ≠ g2 := by have := HB1.out.lt; omega
       have HG2 := Lib.hid (Nat.le_trans HO1.out.size hg2)
       have HB2 := Lib.hid hb2
       clear hb2 hg2 ho2 HB1 HO1)
    | (refine wpList_store_page rfl _ _ rfl g2 (n :: blankP) (by rfl) (by rfl) (by rfl) _ HB2.out (by rfl) ?_
       intro w3 hb3 ho3
       have ho4 := HO2.out.trans ho3 (by simp; exact HG2.out)
       have hb4 := HB1'.out.kept ho3 (by simpa using hne)
       rw [← HZ.out] at hb3
       clear HO2 ho3 HB1' HB2))
  have HG1' : w.heap.size ≤ g2 := HG2.out
  by_cases hnil : l.length = 0
  · obtain rfl : l = [] := List.eq_nil_of_length_eq_zero hnil
    go_loopw [6, 9] (fun _ i wr => ∃ k : Nat, k ≤ 60 ∧ i = .int .i64 k ∧ PB wr g2 27 (n :: filC [] k) ∧ PB wr g1 27 (List.replicate 61 0) ∧ Only [] w wr) (fun _ i _ => 60 - (intOf i).toNat)
    case atStart => exact ⟨0, by omega, rfl, hb3, hb4, ho4⟩
    case round =>
      obtain ⟨k, hk, rfl, hb, hb', ho⟩ := hrel
      by_cases hlt : k < 60
      · rw [filC_nil, ← filC_nil (k + 1)] at hb
        go_wp2_with fail
        go_roundw
        case rel => exact ⟨k + 1, by omega, by go_num, hb, hb', ho⟩
        case measure => simp [intOf]; omega
      · obtain rfl : k = 60 := by omega
        have HO := Lib.hid ho
        clear ho
        go_wp2_with (first
          | (refine wpList_load_page rfl _ rfl g2 (by rfl) _ hb (by simp [filC_length]) ?_)
          | (refine wpList_store_page rfl _ _ rfl g1 (n :: filC [] 60) (by rfl) (by rfl) (by simp [filC_length]) _ hb' (by rfl) ?_
             intro w5 hb5 ho5))
        exact bodyPost_ret (results_page rfl _ _ g1 _ (by rfl) hb5 (by simp [filC_length])) rfl ⟨rfl, HO.out.trans ho5 (by simp; exact HG1.out)⟩
  · go_loopw [6, 9] (fun _ i wr => ∃ k : Nat, k ≤ 60 ∧ i = .int .i64 k ∧ PB wr g2 27 (n :: filC l k) ∧ PB wr g1 27 (List.replicate 61 0) ∧ Only [] w wr) (fun _ i _ => 60 - (intOf i).toNat)
    case atStart => exact ⟨0, by omega, rfl, hb3, hb4, ho4⟩
    case round =>
      obtain ⟨k, hk, rfl, hb, hb', ho⟩ := hrel
      by_cases hlt : k < 60
      · have hm : k % l.length < l.length := Nat.mod_lt _ (by omega)
        obtain ⟨z, hz⟩ : ∃ z, l[k % l.length]? = some z := ⟨_, List.getElem?_eq_getElem hm⟩
        obtain ⟨-, b, off, cap1, e1, hcell⟩ := (HV.out.kept ho (by intro a n c e h; simp)).at_ hz
        cases e1
        have hfil : fil l k = z := by simp [fil, List.getD, hz]
        have hset := filC_set l k hlt
        rw [hfil] at hset
        have hc2 : ∃ v, wr.cell? ⟨g2, 1 + k, none⟩ = some v := ⟨_, hb.cell (z := (filC l k)[k]'(by rw [filC_length]; omega)) (by rw [Nat.add_comm, List.getElem?_cons_succ, List.getElem?_eq_getElem])⟩
        obtain ⟨v2, hc2⟩ := hc2
        have hf2 : wr.frozen? ⟨g2, 1 + k, none⟩ = false := hb.free _
        have hb5 : PB (wr.setCell ⟨g2, 1 + k, none⟩ (.int .i64 z)) g2 27 (n :: filC l (k + 1)) := by
          have e : (n :: filC l k).set (1 + k) z = n :: filC l (k + 1) := by rw [Nat.add_comm, List.set_cons_succ, hset]
          rw [← e]
          exact hb.set (1 + k) z
        have ho5 : Only [] w (wr.setCell ⟨g2, 1 + k, none⟩ (.int .i64 z)) := ho.setCell (Or.inr HG1') _
        have hb6 : PB (wr.setCell ⟨g2, 1 + k, none⟩ (.int .i64 z)) g1 27 (List.replicate 61 0) := hb'.kept ((Only.refl [g2] wr).setCell (.inl (by simp)) _) (by simpa using hne)
        have hrem : (k : Int).tmod (l.length : Int) = ((k % l.length : Nat) : Int) := by rw [Int.ofNat_tmod]
        clear hb hb' ho hset hfil hz
        go_wp2_with fail
        go_roundw
        case rel => exact ⟨k + 1, by omega, by go_num, hb5, hb6, ho5⟩
        case measure => simp [intOf]; omega
      · obtain rfl : k = 60 := by omega
        have HO := Lib.hid ho
        clear ho
        go_wp2_with (first
          | (refine wpList_load_page rfl _ rfl g2 (by rfl) _ hb (by simp [filC_length]) ?_)
          | (refine wpList_store_page rfl _ _ rfl g1 (n :: filC l 60) (by rfl) (by rfl) (by simp [filC_length]) _ hb' (by rfl) ?_
             intro w5 hb5 ho5))
        exact bodyPost_ret (results_page rfl _ _ g1 _ (by rfl) hb5 (by simp [filC_length])) rfl ⟨rfl, HO.out.trans ho5 (by simp; exact HG1.out)⟩

end Go.Proofs.Ythacfanfhdjmbaa
