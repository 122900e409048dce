/- EvalSwaps, for every input: it returns true, and its arguments read behind the call as they did: a swap done twice is none, and one with a cell that isn't there nothing. No condition. -/
import Derived.Test.YtiaeagpepfmfgaaZb
import Derived.Test.YtiaeagpepfmfgaaL
import Derived.Test.YtiaeagpepfmfgaaS2
import Derived.BigQuiet
import Derived.ChangeMaps5
namespace Go.Proofs.Ytiaeagpepfmfgaa
open Go.ChangeShapes Go.WideShapes Go.ChangeAt Go.RowKit Go.Maps
set_option linter.unusedVariables false
set_option linter.unusedSimpArgs false

def txS1 : Sec := [111, 112, 32, 111, 40, 97, 44, 32, 98, 41, 32, 123, 32, 91, 97, 93, 32, 60, 62, 32, 91, 98, 93, 59, 32, 125]
def txS2 : Sec := [111, 112, 32, 111, 40, 97, 44, 32, 98, 41, 32, 123, 32, 91, 97, 93, 32, 60, 62, 32, 91, 98, 93, 59, 32, 91, 98, 93, 32, 60, 62, 32, 91, 97, 93, 59, 32, 125]
theorem parS1 : parseS txS1 = .ok (dfOf txS1) := by kernel_rfl
theorem parS2 : parseS txS2 = .ok (dfOf txS2) := by kernel_rfl
theorem runS1 (c : List Int) (a b : Int) : runP (dfOf txS1) 5 c [a, b] = ((5, swpC c a b), 0, 0) := by kernel_rfl
theorem runS2 (c : List Int) (a b : Int) : runP (dfOf txS2) 5 c [a, b] = ((5, swpC (swpC c a b) b a), 0, 0) := by kernel_rfl
theorem swp_out {c : List Int} {a b : Int} (h : ¬ (inC a ∧ inC b)) : swpC c a b = c := by unfold swpC; rw [if_neg h]
theorem swp_in {c : List Int} {i j : Nat} (hi : i < 60) (hj : j < 60) : swpC c (i : Int) (j : Int) = (c.set i (c.getD j 0)).set j (c.getD i 0) := by
  have h1 : inC (i : Int) := ⟨by omega, by omega⟩
  have h2 : inC (j : Int) := ⟨by omega, by omega⟩
  unfold swpC getC
  rw [if_pos ⟨h1, h2⟩, if_pos h1, if_pos h2]
  rfl
theorem swp_len (c : List Int) (a b : Int) : (swpC c a b).length = c.length := by
  unfold swpC
  split
  · rw [List.length_set, List.length_set]
  · rfl
theorem swp_get {c : List Int} (hc : c.length = 60) {i j : Nat} (hi : i < 60) (hj : j < 60) (k : Nat) (hk : k < 60) : (swpC c (i : Int) (j : Int)).getD k 0 = if j = k then c.getD i 0 else if i = k then c.getD j 0 else c.getD k 0 := by
  rw [swp_in hi hj]
  simp only [List.getD_eq_getElem?_getD, List.getElem?_set, List.length_set, hc]
  by_cases h1 : j = k
  · subst h1
    simp [hk]
  · by_cases h2 : i = k
    · subst h2
      simp [h1, hk]
    · simp [h1, h2]
theorem swp_back {c : List Int} (hc : c.length = 60) (a b : Int) : swpC (swpC c a b) b a = c := by
  by_cases h : inC a ∧ inC b
  · obtain ⟨i, rfl⟩ : ∃ i : Nat, a = (i : Int) := ⟨a.toNat, by omega⟩
    obtain ⟨j, rfl⟩ : ∃ j : Nat, b = (j : Int) := ⟨b.toNat, by omega⟩
    have hi : i < 60 := by omega
    have hj : j < 60 := by omega
    apply List.ext_getElem (by rw [swp_len, swp_len])
    intro k h1 h2
    have hk : k < 60 := by omega
    have e := swp_get (c := swpC c (i : Int) (j : Int)) (by rw [swp_len, hc]) hj hi k hk
    rw [swp_get hc hi hj j hj, swp_get hc hi hj i hi, swp_get hc hi hj k hk] at e
    simp only [List.getD_eq_getElem?_getD, List.getElem?_eq_getElem h1, List.getElem?_eq_getElem h2, Option.getD_some] at e
    rw [e]
    by_cases g1 : i = k
    · subst g1
      simp [List.getElem?_eq_getElem (show i < c.length by omega)]
    · by_cases g2 : j = k
      · subst g2
        have g3 : ¬ j = i := fun e => g1 e.symm
        simp [g1, g3, List.getElem?_eq_getElem (show j < c.length by omega)]
      · simp [g1, g2]
  · rw [swp_out h, swp_out (fun h' => h ⟨h'.2, h'.1⟩)]
theorem wpList_page_eql {w : World} {ops : Array Oper} {rest : List Oper} {o : Oper} {a : Act} {Q : Exit → Act → World → Prop} (hg : o.guard = none) (x y : Operand) (ho : o.op = .binOp .eql 35 x y 35) (n m : Int) (c d : List Int) (hx : a.eval x = .agg (ivA (n :: c))) (hy : a.eval y = .agg (ivA (m :: d))) (hc : c.length = 60) (hd : d.length = 60)
    (h : wpList Try.prog ops Q rest (a.put o.dst (.bool (decide (n = m) && decide (c = d)))) w) : wpList Try.prog ops Q (o :: rest) a w := by
  refine wpList_run hg (.bool (decide (n = m) && decide (c = d))) ?_ h
  simp only [execOp, ho, hx, hy, Sem.run_bind, run_eqGuard_agg w .eql 35 x y _ _ guard_page, Result.andThen_ok, eql_page n m c d hc hd, Sem.run_pure]
set_option maxRecDepth 100000 in
set_option maxHeartbeats 8000000 in
theorem eswaps_walk (v : Value) (a b : Int) (l : List Int) (w : World) (hv : IntsV w v l) (hl : l.length ≤ maxLen) (ha : (Lit.int .i64 a).wf = true) (hb : (Lit.int .i64 b).wf = true) :
    Calls Try.prog 8 #[v, .int .i64 a, .int .i64 b] w fun e w' => e = .returned (.bool true) ∧ Only [] w w' := by
  have HNA := Lib.hid (wf_n64 ha)
  have HNB := Lib.hid (wf_n64 hb)
  have hl' : l.length ≤ 9223372036854775807 := by unfold maxLen at hl; omega
  obtain ⟨av, cap, rfl, -⟩ := id hv
  have HV := Lib.hid hv
  have HCW := Lib.hid (cw_fil (ints_n64 hv) 60)
  obtain ⟨c, hc⟩ : ∃ c, c = filC l 60 := ⟨_, rfl⟩
  rw [← hc] at HCW
  have HC := Lib.hid hc
  have H61 : Hid ((5 :: c).length = 61) := Lib.hid (by rw [List.length_cons, HCW.out.len])
  obtain ⟨ln, hln⟩ : ∃ n, n = l.length := ⟨_, rfl⟩
  have HVL := Lib.hid (show IntsV w (.slice av ln cap) l by rw [hln]; exact hv)
  have HL := Lib.hid hl'
  rw [← hln]
  clear ha hb hv hl hc hln hl'
  have T1 := trivial
  have T2 := trivial
  have T3 := trivial
  go_enter Try.func8, Try.ntmps8
  go_wp2_with fail
  refine (alive9_any w).mono ?_
  rintro e w0 ⟨rfl, o0⟩
  have HO := Lib.hid o0
  clear o0
  go_wp2_with fail
  refine (parse_ok (d := dfOf txS1) w0 (by decide) (show parseS _ = _ from parS1)).mono ?_
  rintro e w1 ⟨sn1, a11, a21, a31, a41, l11, l21, l31, l41, c11, c21, c31, c41, rfl, hdv, o1⟩
  have HDV1 := Lib.hid hdv
  replace HO := Lib.hid (HO.out.trans o1 (by simp))
  have HWH1 := Lib.hid (parse_whole parS1)
  have HPL1 := Lib.hid (parse_plain parS1)
  have HGD1 := Lib.hid (parse_good parS1)
  have R1 := Lib.hid (runS1 c a b)
  generalize dfOf txS1 = d1 at HDV1 HWH1 HPL1 HGD1 R1
  clear hdv o1
  go_upto_region 4 with (fail)
  have oA := (Only.refl [] w1).alloc (.cells #[.string sn1, .slice a11 l11 c11, .slice a21 l21 c21, .slice a31 l31 c31, .slice a41 l41 c41] 30)
  have hA := heap_new w1 (.cells #[.string sn1, .slice a11 l11 c11, .slice a21 l21 c21, .slice a31 l31 c31, .slice a41 l41 c41] 30)
  obtain ⟨gd1, hgd⟩ : ∃ g, g = w1.heap.size := ⟨_, rfl⟩
  rw [← hgd] at hA ⊢
  generalize w1.alloc (.cells #[.string sn1, .slice a11 l11 c11, .slice a21 l21 c21, .slice a31 l31 c31, .slice a41 l41 c41] 30) = w2 at oA hA ⊢
  replace HO := Lib.hid (HO.out.trans oA (by simp))
  replace HDV1 := Lib.hid (HDV1.out.kept oA (by simp) (fun _ h => h))
  have HA1 := Lib.hid hA
  clear oA hA hgd
  go_wp2_with fail
  refine (parse_ok (d := dfOf txS2) w2 (by decide) (show parseS _ = _ from parS2)).mono ?_
  rintro e w3 ⟨sn2, a12, a22, a32, a42, l12, l22, l32, l42, c12, c22, c32, c42, rfl, hdv, o1⟩
  have HDV2 := Lib.hid hdv
  replace HO := Lib.hid (HO.out.trans o1 (by simp))
  replace HDV1 := Lib.hid (HDV1.out.kept o1 (by simp) (fun _ h => h))
  replace HA1 := Lib.hid (o1.heap HA1.out (by simp))
  have HWH2 := Lib.hid (parse_whole parS2)
  have HPL2 := Lib.hid (parse_plain parS2)
  have HGD2 := Lib.hid (parse_good parS2)
  have R2 := Lib.hid (runS2 c a b)
  rw [swp_back HCW.out.len] at R2
  generalize dfOf txS2 = d2 at HDV2 HWH2 HPL2 HGD2 R2
  clear hdv o1
  go_upto_region 5 with (fail)
  have oA := (Only.refl [] w3).alloc (.cells #[.string sn2, .slice a12 l12 c12, .slice a22 l22 c22, .slice a32 l32 c32, .slice a42 l42 c42] 30)
  have hA := heap_new w3 (.cells #[.string sn2, .slice a12 l12 c12, .slice a22 l22 c22, .slice a32 l32 c32, .slice a42 l42 c42] 30)
  obtain ⟨gd2, hgd⟩ : ∃ g, g = w3.heap.size := ⟨_, rfl⟩
  rw [← hgd] at hA ⊢
  generalize w3.alloc (.cells #[.string sn2, .slice a12 l12 c12, .slice a22 l22 c22, .slice a32 l32 c32, .slice a42 l42 c42] 30) = w4 at oA hA ⊢
  replace HO := Lib.hid (HO.out.trans oA (by simp))
  replace HDV2 := Lib.hid (HDV2.out.kept oA (by simp) (fun _ h => h))
  have HA2 := Lib.hid hA
  replace HDV1 := Lib.hid (HDV1.out.kept oA (by simp) (fun _ h => h))
  replace HA1 := Lib.hid (oA.heap HA1.out (by simp))
  clear oA hA hgd
  go_wp2_with fail
  refine (filled9_any _ l w4 (HVL.out.kept HO.out (by intro a n c e h; simp)) HL.out).mono ?_
  rintro e w5 ⟨rfl, o5⟩
  rw [← HC.out]
  replace HO := Lib.hid (HO.out.trans o5 (by simp))
  replace HDV1 := Lib.hid (HDV1.out.kept o5 (by simp) (fun _ h => h))
  replace HA1 := Lib.hid (o5.heap HA1.out (by simp))
  replace HDV2 := Lib.hid (HDV2.out.kept o5 (by simp) (fun _ h => h))
  replace HA2 := Lib.hid (o5.heap HA2.out (by simp))
  clear o5 HVL HC HV HL
  go_upto_region 8 with (first
    | (clear T1
       refine wpList_new_page rfl rfl ?_
       intro w6 gp hbp hgp hop
       have HP6 := Lib.hid hbp
       have HOP := Lib.hid hop
       have HGP := Lib.hid hgp
       clear hbp hgp hop)
    | (refine wpList_store_page rfl _ _ rfl gp (5 :: c) (by rfl) (by rfl) H61.out _ HP6.out (by rfl) ?_
       intro w7 hb7 ho7))
  have o57 : Only [] w5 w7 := HOP.out.trans ho7 (fun k hk => .inr (by rw [List.mem_singleton.1 hk]; exact HGP.out))
  replace HO := Lib.hid (HO.out.trans o57 (by simp))
  replace HDV1 := Lib.hid (HDV1.out.kept o57 (by simp) (fun _ h => h))
  replace HA1 := Lib.hid (o57.heap HA1.out (by simp))
  replace HDV2 := Lib.hid (HDV2.out.kept o57 (by simp) (fun _ h => h))
  replace HA2 := Lib.hid (o57.heap HA2.out (by simp))
  have HP := Lib.hid hb7
  clear HP6 HOP HGP hb7 ho7 o57
  have y0 : w7.cell? ⟨gd1, 0, none⟩ = some (.string sn1) := cell_at 0 HA1.out
  have y1 : w7.cell? ⟨gd1, 1, none⟩ = some (.slice a11 l11 c11) := cell_at 1 HA1.out
  have y2 : w7.cell? ⟨gd1, 2, none⟩ = some (.slice a21 l21 c21) := cell_at 2 HA1.out
  have y3 : w7.cell? ⟨gd1, 3, none⟩ = some (.slice a31 l31 c31) := cell_at 3 HA1.out
  have y4 : w7.cell? ⟨gd1, 4, none⟩ = some (.slice a41 l41 c41) := cell_at 4 HA1.out
  go_wp2_with (refine wpList_load_page rfl _ rfl gp (by rfl) (5 :: c) HP.out H61.out ?_)
  have oS := (Only.refl [] w7).alloc (.cells #[.int .i64 a, .int .i64 b] 3)
  have KR := run_any (HDV1.out.kept oS (by simp) (fun _ h => h)) HWH1.out HPL1.out HGD1.out HCW.out (n := 5) (ints_two w7 HNA.out HNB.out) (by show 2 ≤ maxLen; decide)
  rw [R1.out] at KR
  refine KR.mono ?_
  rintro e w8 ⟨rfl, oR⟩
  rw [errV0]
  dsimp only
  have oT := oS.trans oR (by simp)
  clear KR y0 y1 y2 y3 y4
  replace HO := Lib.hid (HO.out.trans oT (by simp))
  replace HDV1 := Lib.hid (HDV1.out.kept oT (by simp) (fun _ h => h))
  replace HA1 := Lib.hid (oT.heap HA1.out (by simp))
  replace HDV2 := Lib.hid (HDV2.out.kept oT (by simp) (fun _ h => h))
  replace HA2 := Lib.hid (oT.heap HA2.out (by simp))
  replace HP := Lib.hid (HP.out.kept oT (by simp))
  clear oS oR oT
  obtain ⟨c2, hc2⟩ : ∃ x, x = swpC c a b := ⟨_, rfl⟩
  rw [← hc2]
  have HC2 := Lib.hid hc2
  have H612 : Hid ((5 :: c2).length = 61) := Lib.hid (by rw [List.length_cons, hc2, swp_len, HCW.out.len])
  clear hc2
  go_upto_region 9 with (first
    | (clear T2
       refine wpList_new_page rfl rfl ?_
       intro w9 gq hbp hgp hop
       have HP6 := Lib.hid hbp
       have HOP := Lib.hid hop
       have HGP := Lib.hid hgp
       clear hbp hgp hop)
    | (refine wpList_store_page rfl _ _ rfl gq (5 :: c2) (by rfl) (by rfl) H612.out _ HP6.out (by rfl) ?_
       intro w10 hb10 ho10))
  have o810 : Only [] w8 w10 := HOP.out.trans ho10 (fun k hk => .inr (by rw [List.mem_singleton.1 hk]; exact HGP.out))
  replace HO := Lib.hid (HO.out.trans o810 (by simp))
  replace HDV1 := Lib.hid (HDV1.out.kept o810 (by simp) (fun _ h => h))
  replace HA1 := Lib.hid (o810.heap HA1.out (by simp))
  replace HDV2 := Lib.hid (HDV2.out.kept o810 (by simp) (fun _ h => h))
  replace HA2 := Lib.hid (o810.heap HA2.out (by simp))
  replace HP := Lib.hid (HP.out.kept o810 (by simp))
  have HQ := Lib.hid hb10
  clear HP6 HOP HGP hb10 ho10 o810
  have y0 : w10.cell? ⟨gd2, 0, none⟩ = some (.string sn2) := cell_at 0 HA2.out
  have y1 : w10.cell? ⟨gd2, 1, none⟩ = some (.slice a12 l12 c12) := cell_at 1 HA2.out
  have y2 : w10.cell? ⟨gd2, 2, none⟩ = some (.slice a22 l22 c22) := cell_at 2 HA2.out
  have y3 : w10.cell? ⟨gd2, 3, none⟩ = some (.slice a32 l32 c32) := cell_at 3 HA2.out
  have y4 : w10.cell? ⟨gd2, 4, none⟩ = some (.slice a42 l42 c42) := cell_at 4 HA2.out
  go_wp2_with (refine wpList_load_page rfl _ rfl gp (by rfl) (5 :: c) HP.out H61.out ?_)
  have oS := (Only.refl [] w10).alloc (.cells #[.int .i64 a, .int .i64 b] 3)
  have KR := run_any (HDV2.out.kept oS (by simp) (fun _ h => h)) HWH2.out HPL2.out HGD2.out HCW.out (n := 5) (ints_two w10 HNA.out HNB.out) (by show 2 ≤ maxLen; decide)
  rw [R2.out] at KR
  refine KR.mono ?_
  rintro e w11 ⟨rfl, oR⟩
  rw [errV0]
  dsimp only
  have oT := oS.trans oR (by simp)
  clear KR y0 y1 y2 y3 y4
  replace HO := Lib.hid (HO.out.trans oT (by simp))
  replace HDV1 := Lib.hid (HDV1.out.kept oT (by simp) (fun _ h => h))
  replace HA1 := Lib.hid (oT.heap HA1.out (by simp))
  replace HDV2 := Lib.hid (HDV2.out.kept oT (by simp) (fun _ h => h))
  replace HA2 := Lib.hid (oT.heap HA2.out (by simp))
  replace HP := Lib.hid (HP.out.kept oT (by simp))
  replace HQ := Lib.hid (HQ.out.kept oT (by simp))
  clear oS oR oT
  go_upto_region 10 with (first
    | (clear T3
       refine wpList_new_page rfl rfl ?_
       intro w12 gr hbp hgp hop
       have HP6 := Lib.hid hbp
       have HOP := Lib.hid hop
       have HGP := Lib.hid hgp
       clear hbp hgp hop)
    | (refine wpList_store_page rfl _ _ rfl gr (5 :: c) (by rfl) (by rfl) H61.out _ HP6.out (by rfl) ?_
       intro w13 hb13 ho13))
  have o1113 : Only [] w11 w13 := HOP.out.trans ho13 (fun k hk => .inr (by rw [List.mem_singleton.1 hk]; exact HGP.out))
  replace HO := Lib.hid (HO.out.trans o1113 (by simp))
  replace HP := Lib.hid (HP.out.kept o1113 (by simp))
  replace HQ := Lib.hid (HQ.out.kept o1113 (by simp))
  have HR := Lib.hid hb13
  clear HP6 HOP HGP hb13 ho13 o1113 HDV1 HDV2 HA1 HA2 HWH1 HWH2 HPL1 HPL2 HGD1 HGD2 R1 R2
  have q1 := neq_nil
  have d1 : (!(decide ((5 : Int) = 5) && decide (c = c))) = false := by simp
  have D1 := Lib.hid d1
  clear d1
  by_cases ha0 : a < 0
  ·
    obtain rfl : c2 = c := HC2.out.trans (swp_out (by omega))
    have D2 := Lib.hid (show (decide ((5 : Int) = 5) && decide (c2 = c2)) = true by simp)
    go_simp
    repeat (first
      | (guard_target =~ Oper.wp _ (Oper.mk (some 67) _ _ _ _ _) _ _ _ _; refine wp_page_load (.tmp 17) rfl gr (by rfl) (5 :: c2) HR.out H61.out ?_; simp only [Act.put, List.setIfInBounds_toArray, List.set_cons_zero, List.set_cons_succ])
      | (guard_target =~ Oper.wp _ (Oper.mk (some 68) _ _ _ _ _) _ _ _ _; refine wp_page_load (.tmp 13) rfl gp (by rfl) (5 :: c2) HP.out H61.out ?_; simp only [Act.put, List.setIfInBounds_toArray, List.set_cons_zero, List.set_cons_succ])
      | (guard_target =~ Oper.wp _ (Oper.mk (some 69) _ _ _ _ _) _ _ _ _; refine wp_page_neq (.tmp 67) (.tmp 68) rfl 5 5 c2 c2 (by rfl) (by rfl) HCW.out.len HCW.out.len ?_; rw [D1.out]; simp only [Act.put, List.setIfInBounds_toArray, List.set_cons_zero, List.set_cons_succ])
      | (guard_target =~ Oper.wp _ (Oper.mk (some 85) _ _ _ _ _) _ _ _ _; refine wp_page_load (.tmp 14) rfl gq (by rfl) (5 :: c2) HQ.out H61.out ?_; simp only [Act.put, List.setIfInBounds_toArray, List.set_cons_zero, List.set_cons_succ])
      | (guard_target =~ Oper.wp _ (Oper.mk (some 86) _ _ _ _ _) _ _ _ _; refine wp_page_load (.tmp 13) rfl gp (by rfl) (5 :: c2) HP.out H61.out ?_; simp only [Act.put, List.setIfInBounds_toArray, List.set_cons_zero, List.set_cons_succ])
      | (guard_target =~ Oper.wp _ (Oper.mk (some 87) _ _ _ _ _) _ _ _ _; refine wp_page_eql (.tmp 85) (.tmp 86) rfl 5 5 c2 c2 (by rfl) (by rfl) HCW.out.len HCW.out.len ?_; rw [D2.out]; simp only [Act.put, List.setIfInBounds_toArray, List.set_cons_zero, List.set_cons_succ])
      | go_values | go_skip | go_guarded | go_step | go_upon)
    go_ret
    exact ⟨rfl, HO.out⟩
  · by_cases ha1 : 59 < a
    ·
      obtain rfl : c2 = c := HC2.out.trans (swp_out (by omega))
      have D2 := Lib.hid (show (decide ((5 : Int) = 5) && decide (c2 = c2)) = true by simp)
      go_simp
      repeat (first
        | (guard_target =~ Oper.wp _ (Oper.mk (some 67) _ _ _ _ _) _ _ _ _; refine wp_page_load (.tmp 17) rfl gr (by rfl) (5 :: c2) HR.out H61.out ?_; simp only [Act.put, List.setIfInBounds_toArray, List.set_cons_zero, List.set_cons_succ])
        | (guard_target =~ Oper.wp _ (Oper.mk (some 68) _ _ _ _ _) _ _ _ _; refine wp_page_load (.tmp 13) rfl gp (by rfl) (5 :: c2) HP.out H61.out ?_; simp only [Act.put, List.setIfInBounds_toArray, List.set_cons_zero, List.set_cons_succ])
        | (guard_target =~ Oper.wp _ (Oper.mk (some 69) _ _ _ _ _) _ _ _ _; refine wp_page_neq (.tmp 67) (.tmp 68) rfl 5 5 c2 c2 (by rfl) (by rfl) HCW.out.len HCW.out.len ?_; rw [D1.out]; simp only [Act.put, List.setIfInBounds_toArray, List.set_cons_zero, List.set_cons_succ])
        | (guard_target =~ Oper.wp _ (Oper.mk (some 85) _ _ _ _ _) _ _ _ _; refine wp_page_load (.tmp 14) rfl gq (by rfl) (5 :: c2) HQ.out H61.out ?_; simp only [Act.put, List.setIfInBounds_toArray, List.set_cons_zero, List.set_cons_succ])
        | (guard_target =~ Oper.wp _ (Oper.mk (some 86) _ _ _ _ _) _ _ _ _; refine wp_page_load (.tmp 13) rfl gp (by rfl) (5 :: c2) HP.out H61.out ?_; simp only [Act.put, List.setIfInBounds_toArray, List.set_cons_zero, List.set_cons_succ])
        | (guard_target =~ Oper.wp _ (Oper.mk (some 87) _ _ _ _ _) _ _ _ _; refine wp_page_eql (.tmp 85) (.tmp 86) rfl 5 5 c2 c2 (by rfl) (by rfl) HCW.out.len HCW.out.len ?_; rw [D2.out]; simp only [Act.put, List.setIfInBounds_toArray, List.set_cons_zero, List.set_cons_succ])
        | go_values | go_skip | go_guarded | go_step | go_upon)
      go_ret
      exact ⟨rfl, HO.out⟩
    · by_cases hb0 : b < 0
      ·
        obtain rfl : c2 = c := HC2.out.trans (swp_out (by omega))
        have D2 := Lib.hid (show (decide ((5 : Int) = 5) && decide (c2 = c2)) = true by simp)
        go_simp
        repeat (first
          | (guard_target =~ Oper.wp _ (Oper.mk (some 67) _ _ _ _ _) _ _ _ _; refine wp_page_load (.tmp 17) rfl gr (by rfl) (5 :: c2) HR.out H61.out ?_; simp only [Act.put, List.setIfInBounds_toArray, List.set_cons_zero, List.set_cons_succ])
          | (guard_target =~ Oper.wp _ (Oper.mk (some 68) _ _ _ _ _) _ _ _ _; refine wp_page_load (.tmp 13) rfl gp (by rfl) (5 :: c2) HP.out H61.out ?_; simp only [Act.put, List.setIfInBounds_toArray, List.set_cons_zero, List.set_cons_succ])
          | (guard_target =~ Oper.wp _ (Oper.mk (some 69) _ _ _ _ _) _ _ _ _; refine wp_page_neq (.tmp 67) (.tmp 68) rfl 5 5 c2 c2 (by rfl) (by rfl) HCW.out.len HCW.out.len ?_; rw [D1.out]; simp only [Act.put, List.setIfInBounds_toArray, List.set_cons_zero, List.set_cons_succ])
          | (guard_target =~ Oper.wp _ (Oper.mk (some 85) _ _ _ _ _) _ _ _ _; refine wp_page_load (.tmp 14) rfl gq (by rfl) (5 :: c2) HQ.out H61.out ?_; simp only [Act.put, List.setIfInBounds_toArray, List.set_cons_zero, List.set_cons_succ])
          | (guard_target =~ Oper.wp _ (Oper.mk (some 86) _ _ _ _ _) _ _ _ _; refine wp_page_load (.tmp 13) rfl gp (by rfl) (5 :: c2) HP.out H61.out ?_; simp only [Act.put, List.setIfInBounds_toArray, List.set_cons_zero, List.set_cons_succ])
          | (guard_target =~ Oper.wp _ (Oper.mk (some 87) _ _ _ _ _) _ _ _ _; refine wp_page_eql (.tmp 85) (.tmp 86) rfl 5 5 c2 c2 (by rfl) (by rfl) HCW.out.len HCW.out.len ?_; rw [D2.out]; simp only [Act.put, List.setIfInBounds_toArray, List.set_cons_zero, List.set_cons_succ])
          | go_values | go_skip | go_guarded | go_step | go_upon)
        go_ret
        exact ⟨rfl, HO.out⟩
      · by_cases hb1 : 59 < b
        ·
          obtain rfl : c2 = c := HC2.out.trans (swp_out (by omega))
          have D2 := Lib.hid (show (decide ((5 : Int) = 5) && decide (c2 = c2)) = true by simp)
          go_simp
          repeat (first
            | (guard_target =~ Oper.wp _ (Oper.mk (some 67) _ _ _ _ _) _ _ _ _; refine wp_page_load (.tmp 17) rfl gr (by rfl) (5 :: c2) HR.out H61.out ?_; simp only [Act.put, List.setIfInBounds_toArray, List.set_cons_zero, List.set_cons_succ])
            | (guard_target =~ Oper.wp _ (Oper.mk (some 68) _ _ _ _ _) _ _ _ _; refine wp_page_load (.tmp 13) rfl gp (by rfl) (5 :: c2) HP.out H61.out ?_; simp only [Act.put, List.setIfInBounds_toArray, List.set_cons_zero, List.set_cons_succ])
            | (guard_target =~ Oper.wp _ (Oper.mk (some 69) _ _ _ _ _) _ _ _ _; refine wp_page_neq (.tmp 67) (.tmp 68) rfl 5 5 c2 c2 (by rfl) (by rfl) HCW.out.len HCW.out.len ?_; rw [D1.out]; simp only [Act.put, List.setIfInBounds_toArray, List.set_cons_zero, List.set_cons_succ])
            | (guard_target =~ Oper.wp _ (Oper.mk (some 85) _ _ _ _ _) _ _ _ _; refine wp_page_load (.tmp 14) rfl gq (by rfl) (5 :: c2) HQ.out H61.out ?_; simp only [Act.put, List.setIfInBounds_toArray, List.set_cons_zero, List.set_cons_succ])
            | (guard_target =~ Oper.wp _ (Oper.mk (some 86) _ _ _ _ _) _ _ _ _; refine wp_page_load (.tmp 13) rfl gp (by rfl) (5 :: c2) HP.out H61.out ?_; simp only [Act.put, List.setIfInBounds_toArray, List.set_cons_zero, List.set_cons_succ])
            | (guard_target =~ Oper.wp _ (Oper.mk (some 87) _ _ _ _ _) _ _ _ _; refine wp_page_eql (.tmp 85) (.tmp 86) rfl 5 5 c2 c2 (by rfl) (by rfl) HCW.out.len HCW.out.len ?_; rw [D2.out]; simp only [Act.put, List.setIfInBounds_toArray, List.set_cons_zero, List.set_cons_succ])
            | go_values | go_skip | go_guarded | go_step | go_upon)
          go_ret
          exact ⟨rfl, HO.out⟩
        · obtain ⟨i, rfl⟩ : ∃ i : Nat, a = (i : Int) := ⟨a.toNat, by omega⟩
          obtain ⟨j, rfl⟩ : ∃ j : Nat, b = (j : Int) := ⟨b.toNat, by omega⟩
          have hi : i < 60 := by omega
          have hj : j < 60 := by omega
          have g1 := swp_get HCW.out.len hi hj i hi
          have g2 := swp_get HCW.out.len hi hj j hj
          rw [if_pos rfl] at g2
          have g1 : (swpC c (i : Int) (j : Int)).getD i 0 = c.getD j 0 := by
            rw [g1]
            split
            · rename_i e; rw [e]
            · rw [if_pos rfl]
          rw [← HC2.out] at g1 g2
          have l1 : c.length = 60 := HCW.out.len
          have l2 : c2.length = 60 := by have := H612.out; rw [List.length_cons] at this; omega
          have nth : ∀ (x : List Int) (k : Nat), x.length = 60 → k < 60 → (5 :: x)[1 + k]? = some (x.getD k 0) := fun x k hx hk => by
            rw [Nat.add_comm, List.getElem?_cons_succ, List.getD_eq_getElem?_getD, List.getElem?_eq_getElem (by omega)]
            rfl
          have x1 : w13.cell? ⟨gq, 1 + i, none⟩ = some (.int .i64 (c.getD j 0)) := HQ.out.cell (by rw [nth _ _ l2 hi, g1])
          have x2 : w13.cell? ⟨gp, 1 + j, none⟩ = some (.int .i64 (c.getD j 0)) := HP.out.cell (nth _ _ l1 hj)
          have x3 : w13.cell? ⟨gq, 1 + j, none⟩ = some (.int .i64 (c.getD i 0)) := HQ.out.cell (by rw [nth _ _ l2 hj, g2])
          have x4 : w13.cell? ⟨gp, 1 + i, none⟩ = some (.int .i64 (c.getD i 0)) := HP.out.cell (nth _ _ l1 hi)
          generalize c.getD j 0 = V1 at x1 x2
          generalize c.getD i 0 = V2 at x3 x4
          have X := Lib.hid (And.intro x1 (And.intro x2 (And.intro x3 x4)))
          have i0 : (0 : Int) ≤ (i : Int) := by omega
          have j0 : (0 : Int) ≤ (j : Int) := by omega
          have i1 : (i : Int) < 60 := by omega
          have j1 : (j : Int) < 60 := by omega
          have v1 : (V1 == V1) = true := by simp
          have v2 : (V2 == V2) = true := by simp
          clear g1 g2 nth x1 x2 x3 x4 l1 l2
          go_simp
          repeat (first
            | (guard_target =~ Oper.wp _ (Oper.mk (some 67) _ _ _ _ _) _ _ _ _; refine wp_page_load (.tmp 17) rfl gr (by rfl) (5 :: c) HR.out H61.out ?_; simp only [Act.put, List.setIfInBounds_toArray, List.set_cons_zero, List.set_cons_succ])
            | (guard_target =~ Oper.wp _ (Oper.mk (some 68) _ _ _ _ _) _ _ _ _; refine wp_page_load (.tmp 13) rfl gp (by rfl) (5 :: c) HP.out H61.out ?_; simp only [Act.put, List.setIfInBounds_toArray, List.set_cons_zero, List.set_cons_succ])
            | (guard_target =~ Oper.wp _ (Oper.mk (some 69) _ _ _ _ _) _ _ _ _; refine wp_page_neq (.tmp 67) (.tmp 68) rfl 5 5 c c (by rfl) (by rfl) HCW.out.len HCW.out.len ?_; rw [D1.out]; simp only [Act.put, List.setIfInBounds_toArray, List.set_cons_zero, List.set_cons_succ])
            | go_values | go_skip | go_guarded | go_step | go_upon)
          go_upto_region 14 with (fail)
          obtain ⟨x1, x2, x3, x4⟩ := X.out
          go_quiet (fail)
          have oq := only_drewN' (n := nq) (Only.refl [] w13)
          go_wp2_with fail
          go_ret
          exact ⟨rfl, HO.out.trans oq (by simp)⟩

set_option maxRecDepth 100000 in
theorem eswaps_lifted (os : Os) (started : os.Started) (H : Type) (enc : TypeId × Value → H) :
    ReturnsInHanded {} Try.checked os 8 .any (Rows.evalSwapsSpec.pre6 enc Try.prog Try.f8 Rows.evalSwapsRow.domain false) (Rows.evalSwapsSpec.post enc Try.prog Try.f8 false true false false) := by
  refine returnsInHanded_of_change (C := Try.checked) law_own started (by kernel_rfl) Try.func8
    (ChangeSpec.witness6 (enc := enc) (C := Try.checked) false ⟨#[], #[.slice none 0 0, .int .i64 0, .int .i64 0], []⟩ 8 (by kernel_rfl) (by kernel_rfl) (by kernel_rfl) (by kernel_rfl)) ?_
  intro W base args ds gs before hval0 hW hcnd _
  have hval : ∀ (j : Nat) t v, Try.f8.params[j]? = some t → args[j]? = some v → Value.okWide Try.prog W .any base t v := hval0
  have hW' := hW
  obtain ⟨p, q, hA0, hV, rfl, hfz, hnd⟩ := hW
  have hA : DataW.TrodAll enc Try.prog W 0 (fun _ => true) true Try.f8.params.toList args.toList ds p := hA0
  rw [Try.params8] at hA hval
  obtain ⟨v0, vs0, d0, ds0, p0, q0, hargs, rfl, rfl, h0, r0⟩ := trodAll_cons hA
  obtain ⟨v1, vs1, d1, ds1, p1, q1, rfl, rfl, rfl, h1, r1⟩ := trodAll_cons r0
  obtain ⟨v2, vs2, d2, ds2, p2, q2, rfl, rfl, rfl, h2, r2⟩ := trodAll_cons r1
  obtain ⟨rfl, rfl, rfl⟩ := trodAll_nil r2
  obtain rfl : args = #[v0, v1, v2] := by cases args; simp_all
  obtain ⟨rfl, rfl⟩ := trodVars_none hV
  have h0' := h0
  obtain ⟨sa0, sl0, sc0, rfl⟩ := okWide_slice Try.underlying22 (hval 0 22 v0 rfl rfl)
  obtain ⟨fuel0, hf0⟩ := h0
  obtain ⟨l0, hs0, _, hl0⟩ := open_nums (v := .slice sa0 sl0 sc0) hf0
  have hlt0 : ∀ x ∈ p0, x.block < W.heap.size := fun x hx => hW'.lt x (by simp [hx])
  obtain ⟨a1, rfl, rfl, rfl, w1⟩ := open_int Try.underlying3 (hval 1 3 v1 rfl rfl) h1
  obtain ⟨a2, rfl, rfl, rfl, w2⟩ := open_int Try.underlying3 (hval 2 3 v2 rfl rfl) h2
  clear hA0 hval0
  refine (eswaps_walk _ a1 a2 l0 W hs0 hl0 w1 w2).mono fun e W' ⟨he, hg⟩ => ?_
  subst he
  exact ⟨_, rfl, post_quiet (pa := (p0 ++ ([] ++ ([] ++ [])))) (pv := []) hW' hg (fun _ _ _ => (trodAll_cons_mk (shut_bool Try.underlying4 _) trodAll_mk0)) (fun sp hsp => (trodAll_cons_mk (arg_stays (by kernel_rfl) (of_decide_eq_true (by kernel_rfl)) h0' hg hlt0 (fun x hx => hsp x (by simp [hx]))) (trodAll_cons_mk (shut_int Try.underlying3 w1) (trodAll_cons_mk (shut_int Try.underlying3 w2) trodAll_mk0)))) (fun _ _ => rfl) (by simp) (ok_one (by kernel_rfl) rfl (okWide_bool_mk Try.underlying4 _))⟩

theorem eswaps_over : Rows.evalSwapsRow.holds Try.pinned (OpenSpec.ofChange Rows.evalSwapsSpec) :=
  OpenClaim.holds_of_wide 8 Try.f8 rfl rfl rfl rfl rfl rfl rfl ⟨rfl, rfl, rfl, rfl, rfl⟩ rfl rfl rfl rfl rfl (by kernel_rfl) Try.func8 (by kernel_rfl)
    (of_decide_eq_true (by kernel_rfl)) (by unfold Func.isWrapper; first | (rw [if_pos (by decide +kernel)]; kernel_rfl) | (rw [if_neg (by decide +kernel)]; exact ⟨rfl, rfl⟩))
    (fun os started H enc _ => eswaps_lifted os started H enc)

/-- The statement. -/
theorem eswaps_holds : Rows.EvalSwapsSaid :=
  eswaps_over
#print axioms eswaps_holds
end Go.Proofs.Ytiaeagpepfmfgaa
