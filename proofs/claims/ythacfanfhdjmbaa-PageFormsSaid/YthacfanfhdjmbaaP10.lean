/- page: laws at single operations; the chapter's example. -/
import Derived.Test.YthacfanfhdjmbaaP9
import Derived.Test.YthacfanfhdjmbaaLw
namespace Go.Proofs.Ythacfanfhdjmbaa
open Go.RowKit Go.Maps
set_option linter.unusedSimpArgs false
set_option linter.unusedVariables false

section
variable {w : World} {o : Oper} {a : Act} {K : Act → World → Prop} {Q : Exit → Act → World → Prop}
theorem wp_page_load (x : Operand) (ho : o.op = .load 27 x) (g : Nat) (hx : a.eval x = .pointer (some ⟨g, 0, none⟩)) (l : List Int) (hb : PB w g 27 l) (hl : l.length = 61)
    (h : K (a.put o.dst (.agg (ivA l))) w) : o.wp Try.prog a w K Q :=
  wp_load_row _ x ho g hx _ _ _ _ hb Try.underlying27 rfl (size_page l hl) h
theorem wp_page_mid (x : Operand) (ho : o.op = .load 25 x) (g : Nat) (hx : a.eval x = .pointer (some ⟨g, 1, none⟩)) (n : Int) (l : List Int) (hb : PB w g 27 (n :: l)) (hl : l.length = 60)
    (h : K (a.put o.dst (.agg (ivA l))) w) : o.wp Try.prog a w K Q := by
  have hrun : (execOp a.eval o).run Try.prog w = .ok (.value (.agg (ivA l))) w := by
    simp [execOp, ho, hx, Instr.loadAt, Instr.sureAddr, run_load_mid hb hl, Result.andThen]
  unfold Oper.wp
  rw [hrun]
  exact h
theorem wp_page_built (ps : List (Nat × Operand)) (ho : o.op = .build 27 ps.toArray) (l : List Int) (hl : Try.prog.built 27 (ps.map fun x => (x.1, a.eval x.2)) = some (ivA l))
    (h : K (a.put o.dst (.agg (ivA l))) w) : o.wp Try.prog a w K Q := by
  have e : (ps.toArray.map fun (i, x) => (i, a.eval x)).toList = ps.map fun x => (x.1, a.eval x.2) := by simp
  refine wp_build _ ps.toArray ho (by rw [e, hl]; rfl) ?_
  rw [e, hl]
  exact h
theorem wp_page_eql (x y : Operand) (ho : o.op = .binOp .eql 27 x y 27) (n m : Int) (c d : List Int) (hx : a.eval x = .agg (ivA (n :: c))) (hy : a.eval y = .agg (ivA (m :: d))) (hc : c.length = 60) (hd : d.length = 60)
    (h : K (a.put o.dst (.bool (decide (n = m) && decide (c = d)))) w) : o.wp Try.prog a w K Q := by
  have hrun : (execOp a.eval o).run Try.prog w = .ok (.value (.bool (decide (n = m) && decide (c = d)))) w := by
    simp only [execOp, ho, hx, hy, Sem.run_bind, run_eqGuard_agg w .eql 27 x y _ _ guard_page, Result.andThen_ok, eql_page n m c d hc hd, Sem.run_pure]
  unfold Oper.wp
  rw [hrun]
  exact h
theorem wp_page_neq (x y : Operand) (ho : o.op = .binOp .neq 27 x y 27) (n m : Int) (c d : List Int) (hx : a.eval x = .agg (ivA (n :: c))) (hy : a.eval y = .agg (ivA (m :: d))) (hc : c.length = 60) (hd : d.length = 60)
    (h : K (a.put o.dst (.bool (!(decide (n = m) && decide (c = d))))) w) : o.wp Try.prog a w K Q := by
  have hrun : (execOp a.eval o).run Try.prog w = .ok (.value (.bool (!(decide (n = m) && decide (c = d))))) w := by
    simp only [execOp, ho, hx, hy, Sem.run_bind, run_eqGuard_agg w .neq 27 x y _ _ guard_page, Result.andThen_ok, neq_page n m c d hc hd, Sem.run_pure]
  unfold Oper.wp
  rw [hrun]
  exact h
theorem wp_cells_neq (x y : Operand) (ho : o.op = .binOp .neq 25 x y 25) (c d : List Int) (hx : a.eval x = .agg (ivA c)) (hy : a.eval y = .agg (ivA d)) (hc : c.length = 60) (hd : d.length = 60)
    (h : K (a.put o.dst (.bool (!decide (c = d)))) w) : o.wp Try.prog a w K Q := by
  have hrun : (execOp a.eval o).run Try.prog w = .ok (.value (.bool (!decide (c = d)))) w := by
    simp only [execOp, ho, hx, hy, Sem.run_bind, run_eqGuard_agg w .neq 25 x y _ _ guard_cells, Result.andThen_ok, neq_cells c d hc hd, Sem.run_pure]
  unfold Oper.wp
  rw [hrun]
  exact h
end

/-- The example's cells. -/
def exC : List Int := blankP.set 3 (-7)
theorem exC_form : PForm 5 exC := ⟨by decide, by decide, by decide⟩
theorem exC_dif : dif exC blankP 60 = [(3, -7)] := by decide

set_option maxRecDepth 100000 in
set_option maxHeartbeats 1000000 in
theorem alive5_any (w : World) : Calls Try.prog 9 #[] w fun e w' => e = .returned (.bool true) ∧ Only [] w w' := by
  have T1 := trivial
  go_enter Try.func9, Try.ntmps9
  go_wp2_with (first
    | (clear T1
       refine wpList_new_page rfl rfl ?_
       intro w1 g1 hb1 hg1 ho1
       have HB1 := Lib.hid hb1
       have HG1 := Lib.hid hg1
       have HO1 := Lib.hid ho1
       clear hb1 hg1 ho1)
    | (refine wpList_built rfl [_] rfl (5 :: blankP) (built_num 5) ?_)
    | (refine wpList_store_page rfl _ _ rfl g1 (5 :: blankP) (by rfl) (by rfl) (by rfl) _ HB1.out (by rfl) ?_
       intro w2 hb2 ho2
       have HG1' : w.heap.size ≤ g1 := HG1.out
       have HO2 := Lib.hid (HO1.out.trans ho2 (by simp; exact HG1'))
       have hc2 : w2.cell? ⟨g1, 4, none⟩ = some (.int .i64 0) := hb2.cell (by rfl)
       have hf2 : w2.frozen? ⟨g1, 4, none⟩ = false := hb2.free _
       have HB2 := Lib.hid hb2
       clear hb2 ho2 HB1 HO1)
    | (refine wpList_load_page rfl _ rfl g1 (by rfl) (5 :: exC) (HB2.out.set 4 (-7)) (by rfl) ?_
       have hb3 : PB (w2.setCell ⟨g1, 4, none⟩ (.int .i64 (-7))) g1 27 (5 :: exC) := HB2.out.set 4 (-7)
       have ho3 : Only [] w (w2.setCell ⟨g1, 4, none⟩ (.int .i64 (-7))) := HO2.out.setCell (Or.inr HG1') _
       have HB3 := Lib.hid hb3
       have HO3 := Lib.hid ho3
       clear hb3 ho3 hc2 hf2))
  generalize w2.setCell ⟨g1, 4, none⟩ (.int .i64 (-7)) = w3 at HB3 HO3 ⊢
  clear HB2 HO2
  refine (Encode_any 5 exC w3 exC_form).mono ?_
  rintro e w4 ⟨g4, rfl, hb4, hg4, ho4⟩
  have HX4 := Lib.hid hb4
  have HB4 := Lib.hid (HB3.out.kept ho4 (by simp))
  have HO4 := Lib.hid (HO3.out.trans ho4 (by simp))
  have hpl := penc_length exC_form
  clear hb4 hg4 ho4 HB3 HO3
  go_wp2_with fail
  have hby := HX4.out.bytes 512
  rw [hpl] at hby
  refine (Decode_any _ (penc 5 exC) w4 hby (fun a n c e => by cases e; unfold maxLen; omega) (by rw [hpl]; decide)).mono ?_
  rintro e w5 ⟨ho5, hs5, -⟩
  obtain rfl := hs5 5 exC (pdec_enc exC_form)
  have HB5 := Lib.hid (HB4.out.kept ho5 (by simp))
  have HO5 := Lib.hid (HO4.out.trans ho5 (by simp))
  clear hby ho5 hs5 HX4 HB4 HO4
  have T2 := trivial
  have T3 := trivial
  go_wp2_with (first
    | (clear T2
       refine wpList_new_page rfl rfl ?_
       intro w6 g6 hb6 hg6 ho6
       have hne6 : g6 ≠ g1 := by have := HB5.out.lt; omega
       have HB6 := Lib.hid (HB5.out.kept ho6 (by simp))
       have HC6 := Lib.hid hb6
       have HO6 := Lib.hid (HO5.out.trans ho6 (by simp))
       have HG6 := Lib.hid (Nat.le_trans HO5.out.size hg6)
       clear hb6 hg6 ho6)
    | (refine wpList_store_page rfl _ _ rfl g6 (5 :: exC) (by rfl) (by rfl) (by rfl) _ HC6.out (by rfl) ?_
       intro w7 hb7 ho7
       have HB7 := Lib.hid (HB6.out.kept ho7 (by simp; omega))
       have HC7 := Lib.hid hb7
       have HO7 := Lib.hid (HO6.out.trans ho7 (by simp; exact HG6.out))
       clear hb7 ho7)
    | (refine wpList_make_zero rfl _ _ rfl 512 (by rfl) (by rfl) (by omega) ?_
       intro w8 g8 hb8 hg8 ho8
       have HB8 := Lib.hid (HB7.out.kept ho8 (by simp))
       have HC8 := Lib.hid (HC7.out.kept ho8 (by simp))
       have hZ : BBlk w8 g8 zeros := hb8
       have HZ8 := Lib.hid hZ
       have HO8 := Lib.hid (HO7.out.trans ho8 (by simp))
       clear hb8 hg8 ho8 hZ))
  have hby := HZ8.out.bytes 512
  rw [zeros_length] at hby
  refine (Decode_any _ zeros w8 hby (fun a n c e => by cases e; unfold maxLen; omega) (by rw [zeros_length]; decide)).mono ?_
  rintro e w9 ⟨ho9, hs9, -⟩
  obtain rfl := hs9 0 blankP (pdec_zeros rfl)
  have HB9 := Lib.hid (HB8.out.kept ho9 (by simp))
  have HC9 := Lib.hid (HC8.out.kept ho9 (by simp))
  have HO9 := Lib.hid (HO8.out.trans ho9 (by simp))
  clear hby ho9 hs9 HZ8 HB8 HC8 HO8 HB7 HC7 HO7 HB6 HC6 HO6 HB5 HO5
  go_wp2_with (first
    | (clear T3
       refine wpList_new_page rfl rfl ?_
       intro w10 g10 hb10 hg10 ho10
       have hneA : g10 ≠ g1 := by have := HB9.out.lt; omega
       have hneB : g10 ≠ g6 := by have := HC9.out.lt; omega
       have HB10 := Lib.hid (HB9.out.kept ho10 (by simp))
       have HC10 := Lib.hid (HC9.out.kept ho10 (by simp))
       have HD10 := Lib.hid hb10
       have HO10 := Lib.hid (HO9.out.trans ho10 (by simp))
       have HG10 := Lib.hid (Nat.le_trans HO9.out.size hg10)
       clear hb10 hg10 ho10)
    | (refine wpList_store_page rfl _ _ rfl g10 (0 :: blankP) (by rfl) (by rfl) (by rfl) _ HD10.out (by rfl) ?_
       intro w11 hb11 ho11
       have HB11 := Lib.hid (HB10.out.kept ho11 (by simp; omega))
       have HC11 := Lib.hid (HC10.out.kept ho11 (by simp; omega))
       have HD11 := Lib.hid hb11
       have HO11 := Lib.hid (HO10.out.trans ho11 (by simp; exact HG10.out))
       clear hb11 ho11)
    | (refine wpList_load_page rfl (.tmp 1) rfl g1 (by rfl) (5 :: exC) HB11.out (by rfl) ?_)
    | (refine wpList_load_page rfl (.tmp 5) rfl g10 (by rfl) (0 :: blankP) HD11.out (by rfl) ?_))
  refine (Diff_any 5 0 exC blankP w11 (by rfl) (by rfl)).mono ?_
  rintro e w12 ⟨v12, rfl, h12, ho12⟩
  rw [exC_dif] at h12
  have hi12 := h12.imgs (by decide)
  obtain ⟨-, bi, off, cap, rfl, hca, hcb⟩ := hi12.at_ (i := 0) (p := (3, -7)) rfl
  have HB12 := Lib.hid (HB11.out.kept ho12 (by simp))
  have HC12 := Lib.hid (HC11.out.kept ho12 (by simp))
  have HD12 := Lib.hid (HD11.out.kept ho12 (by simp))
  have HO12 := Lib.hid (HO11.out.trans ho12 (by simp))
  clear h12 ho12 hi12 HB11 HC11 HD11 HO11 HB10 HC10 HD10 HO10 HB9 HC9 HO9
  have q1 := iface_nil
  have e0 : off + 0 * 2 = off := by omega
  have e1 : off + 0 * 2 + 1 = off + 1 := by omega
  rw [e0] at hca hcb
  have d1 : (decide ((5 : Int) = 5) && decide (exC = exC)) = true := by decide
  have d2 : (decide ((0 : Int) = 0) && decide (blankP = blankP)) = true := by decide
  have h61 : (5 :: exC).length = 61 := by rfl
  have h61' : ((0 : Int) :: blankP).length = 61 := by rfl
  have H61 := Lib.hid h61
  have H61' := Lib.hid h61'
  clear h61 h61'
  go_simp
  repeat (first
    | (guard_target =~ Oper.wp _ (Oper.mk (some 38) _ _ _ _ _) _ _ _ _; refine wp_page_load (.tmp 3) rfl g6 (by rfl) (5 :: exC) HC12.out H61.out ?_; simp only [Act.put, List.setIfInBounds_toArray, List.set_cons_zero, List.set_cons_succ])
    | (guard_target =~ Oper.wp _ (Oper.mk (some 39) _ _ _ _ _) _ _ _ _; refine wp_page_load (.tmp 1) rfl g1 (by rfl) (5 :: exC) HB12.out H61.out ?_; simp only [Act.put, List.setIfInBounds_toArray, List.set_cons_zero, List.set_cons_succ])
    | (guard_target =~ Oper.wp _ (Oper.mk (some 43) _ _ _ _ _) _ _ _ _; refine wp_page_load (.tmp 5) rfl g10 (by rfl) (0 :: blankP) HD12.out H61'.out ?_; simp only [Act.put, List.setIfInBounds_toArray, List.set_cons_zero, List.set_cons_succ])
    | (guard_target =~ Oper.wp _ (Oper.mk (some 44) _ _ _ _ _) _ _ _ _; refine wp_page_built [] rfl (0 :: blankP) built_none ?_; simp only [Act.put, List.setIfInBounds_toArray, List.set_cons_zero, List.set_cons_succ])
    | (guard_target =~ Oper.wp _ (Oper.mk (some 40) _ _ _ _ _) _ _ _ _; refine wp_page_eql (.tmp 38) (.tmp 39) rfl 5 5 exC exC (by rfl) (by rfl) (by rfl) (by rfl) ?_; rw [d1]; simp only [Act.put, List.setIfInBounds_toArray, List.set_cons_zero, List.set_cons_succ])
    | (guard_target =~ Oper.wp _ (Oper.mk (some 45) _ _ _ _ _) _ _ _ _; refine wp_page_eql (.tmp 43) (.tmp 44) rfl 0 0 blankP blankP (by rfl) (by rfl) (by rfl) (by rfl) ?_; rw [d2]; simp only [Act.put, List.setIfInBounds_toArray, List.set_cons_zero, List.set_cons_succ])
    | go_values | go_skip | go_guarded | go_step | go_upon)
  go_ret
  exact ⟨rfl, HO12.out⟩

end Go.Proofs.Ythacfanfhdjmbaa
