/- EvalOperators, for every input: it returns true: the quotient times the divisor and the rest are the number, by 0 both are 0. No condition. -/
import Derived.Test.YtiaeagpepfmfgaaZb
import Derived.Test.YtiaeagpepfmfgaaL
import Derived.ChangeMaps5
namespace Go.Proofs.Ytiaeagpepfmfgaa
open Go.ChangeShapes Go.WideShapes Go.ChangeAt Go.RowKit Go.Maps
set_option linter.unusedVariables false
set_option linter.unusedSimpArgs false

theorem wrap_congr {x y : Int} (h : (x - y) % 18446744073709551616 = 0) : wrap64 x = wrap64 y := by unfold wrap64; omega
theorem wrap_dvd (x : Int) : (wrap64 x - x) % 18446744073709551616 = 0 := by unfold wrap64; omega
theorem wrap_mul (x b : Int) : wrap64 (wrap64 x * b) = wrap64 (x * b) := by
  refine wrap_congr ?_
  rw [← Int.sub_mul, Int.mul_emod, wrap_dvd, Int.zero_mul]
  rfl
theorem wrap_add (x b : Int) : wrap64 (wrap64 x + b) = wrap64 (x + b) := by
  refine wrap_congr ?_
  have := wrap_dvd x
  omega
theorem wrap_n64 {x : Int} (h : n64 x) : wrap64 x = x := by unfold n64 at h; unfold wrap64; omega
def txO : Sec := [111, 112, 32, 111, 40, 97, 44, 32, 98, 41, 32, 123, 32, 91, 48, 93, 32, 61, 32, 97, 32, 47, 32, 98, 59, 32, 91, 49, 93, 32, 61, 32, 97, 32, 37, 32, 98, 59, 32, 91, 50, 93, 32, 61, 32, 91, 48, 93, 32, 42, 32, 98, 32, 43, 32, 91, 49, 93, 59, 32, 91, 51, 93, 32, 61, 32, 45, 97, 59, 32, 91, 52, 93, 32, 61, 32, 97, 32, 45, 32, 98, 32, 43, 32, 98, 59, 32, 103, 105, 118, 101, 32, 97, 32, 42, 32, 98, 59, 32, 125]
theorem parO : parseS txO = .ok (dfOf txO) := by kernel_rfl
def ccO (q r x y z : Int) : List Int := [q, r, x, y, z] ++ List.replicate 55 0
theorem runO (a b : Int) : runP (dfOf txO) 0 blankP [a, b] = ((0, ccO (opV [47] a b) (opV [37] a b) (opV [43] (opV [42] (opV [47] a b) b) (opV [37] a b)) (wrap64 (-a)) (opV [43] (opV [45] a b) b)), opV [42] a b, 0) := by kernel_rfl
theorem opO_zero (a : Int) : opV [43] (opV [42] (opV [47] a 0) 0) (opV [37] a 0) = 0 := by
  rw [opV_div0, opV_mod0, opV_mul, opV_add]
  unfold wrap64
  omega
theorem opO_back {a b : Int} (ha : n64 a) (hb : n64 b) (h : b ≠ 0) : opV [43] (opV [42] (opV [47] a b) b) (opV [37] a b) = a := by
  rw [opV_div _ h, opV_mod _ h, opV_mul, opV_add, wrap_tmod a hb h, wrap_add]
  have h1 := wrap_dvd (a.tdiv b)
  have h2 := Int.tdiv_mul_add_tmod a b
  have key : wrap64 (wrap64 (a.tdiv b) * b + a.tmod b) = wrap64 (a.tdiv b * b + a.tmod b) := by
    refine wrap_congr ?_
    have e : wrap64 (a.tdiv b) * b + a.tmod b - (a.tdiv b * b + a.tmod b) = (wrap64 (a.tdiv b) - a.tdiv b) * b := by rw [Int.sub_mul]; omega
    rw [e, Int.mul_emod, h1, Int.zero_mul]
    rfl
  rw [key, h2, wrap_n64 ha]
theorem opO_subadd {a : Int} (ha : n64 a) (b : Int) : opV [43] (opV [45] a b) b = a := by
  rw [opV_sub, opV_add, wrap_add, show a - b + b = a by omega, wrap_n64 ha]
theorem opO_sign {a b : Int} (hb : n64 b) (h : b ≠ 0) (h1 : opV [37] a b ≠ 0) : (decide (opV [37] a b < 0) == decide (a < 0)) = true := by
  rw [opV_mod _ h, wrap_tmod a hb h] at h1 ⊢
  rw [beq_iff_eq, decide_eq_decide]
  by_cases ha : a < 0
  · have : a.tmod b ≤ 0 := by
      have := Int.tmod_nonneg b (a := -a) (by omega)
      rw [Int.neg_tmod] at this
      omega
    exact ⟨fun _ => ha, fun _ => by omega⟩
  · have := Int.tmod_nonneg b (a := a) (by omega)
    exact ⟨fun h => by omega, fun h => by omega⟩
set_option maxRecDepth 100000 in
set_option maxHeartbeats 8000000 in
theorem eops_walk (a b : Int) (w : World) (ha : (Lit.int .i64 a).wf = true) (hb : (Lit.int .i64 b).wf = true) :
    Calls Try.prog 6 #[.int .i64 a, .int .i64 b] w fun e w' => e = .returned (.bool true) ∧ Only [] w w' := by
  have HNA := Lib.hid (wf_n64 ha)
  have HNB := Lib.hid (wf_n64 hb)
  clear ha hb
  have T1 := trivial
  have T2 := trivial
  go_enter Try.func6, Try.ntmps6
  go_wp2_with fail
  refine (alive9_any w).mono ?_
  rintro e w0 ⟨rfl, o0⟩
  have HO := Lib.hid o0
  clear o0
  go_wp2_with fail
  refine (parse_ok (d := dfOf txO) w0 (by decide) (show parseS _ = _ from parO)).mono ?_
  rintro e w1 ⟨sn, a1, a2, a3, a4, l1, l2, l3, l4, c1, c2, c3, c4, rfl, hdv, o1⟩
  have HDV := Lib.hid hdv
  replace HO := Lib.hid (HO.out.trans o1 (by simp))
  have HWH := Lib.hid (parse_whole parO)
  have HPL := Lib.hid (parse_plain parO)
  have HGD := Lib.hid (parse_good parO)
  have R1 := Lib.hid (runO a b)
  generalize dfOf txO = d at HDV HWH HPL HGD R1
  clear hdv o1
  go_upto_region 4 with (fail)
  have oA := (Only.refl [] w1).alloc (.cells #[.string sn, .slice a1 l1 c1, .slice a2 l2 c2, .slice a3 l3 c3, .slice a4 l4 c4] 30)
  have hA := heap_new w1 (.cells #[.string sn, .slice a1 l1 c1, .slice a2 l2 c2, .slice a3 l3 c3, .slice a4 l4 c4] 30)
  obtain ⟨gd, hgd⟩ : ∃ g, g = w1.heap.size := ⟨_, rfl⟩
  rw [← hgd] at hA ⊢
  generalize w1.alloc (.cells #[.string sn, .slice a1 l1 c1, .slice a2 l2 c2, .slice a3 l3 c3, .slice a4 l4 c4] 30) = w2 at oA hA ⊢
  replace HO := Lib.hid (HO.out.trans oA (by simp))
  replace HDV := Lib.hid (HDV.out.kept oA (by simp) (fun _ h => h))
  have HA := Lib.hid hA
  clear oA hA hgd
  have y0 : w2.cell? ⟨gd, 0, none⟩ = some (.string sn) := cell_at 0 HA.out
  have y1 : w2.cell? ⟨gd, 1, none⟩ = some (.slice a1 l1 c1) := cell_at 1 HA.out
  have y2 : w2.cell? ⟨gd, 2, none⟩ = some (.slice a2 l2 c2) := cell_at 2 HA.out
  have y3 : w2.cell? ⟨gd, 3, none⟩ = some (.slice a3 l3 c3) := cell_at 3 HA.out
  have y4 : w2.cell? ⟨gd, 4, none⟩ = some (.slice a4 l4 c4) := cell_at 4 HA.out
  go_wp2_with (refine wpList_built rfl [] rfl (0 :: blankP) built_none ?_)
  have oS := (Only.refl [] w2).alloc (.cells #[.int .i64 a, .int .i64 b] 3)
  have KR := run_any (HDV.out.kept oS (by simp) (fun _ h => h)) HWH.out HPL.out HGD.out cw_blank (n := 0) (ints_two w2 HNA.out HNB.out) (by show 2 ≤ maxLen; decide)
  rw [R1.out] at KR
  refine KR.mono ?_
  rintro e w3 ⟨rfl, oR⟩
  rw [errV0]
  dsimp only
  replace HO := Lib.hid ((HO.out.trans oS (by simp)).trans oR (by simp))
  clear KR oS oR y0 y1 y2 y3 y4 HDV HWH HPL HGD R1 HA
  rw [opV_mul a b]
  have z0 := opO_zero a
  have zq := opV_div0 a
  have zr := opV_mod0 a
  have z1 := fun h => opO_back HNA.out HNB.out (b := b) h
  have z2 := opO_subadd HNA.out b
  have z3 := fun h h' => opO_sign HNB.out (a := a) (b := b) h h'
  rw [z2]
  have Z0 := Lib.hid z0
  have ZQ := Lib.hid zq
  have ZR := Lib.hid zr
  have Z1 := Lib.hid z1
  have Z3 := Lib.hid z3
  obtain ⟨X, hX⟩ : ∃ X, X = opV [43] (opV [42] (opV [47] a b) b) (opV [37] a b) := ⟨_, rfl⟩
  obtain ⟨Q, hQ⟩ : ∃ X, X = opV [47] a b := ⟨_, rfl⟩
  obtain ⟨R, hRr⟩ : ∃ X, X = opV [37] a b := ⟨_, rfl⟩
  rw [← hX, ← hQ, ← hRr]
  have HX := Lib.hid hX
  have HQ := Lib.hid hQ
  have HR := Lib.hid hRr
  have H61 : Hid ((0 :: ccO Q R X (wrap64 (-a)) a).length = 61) := Lib.hid (by rfl)
  have H60 : Hid ((ccO Q R X (wrap64 (-a)) a).length = 60) := Lib.hid (by rfl)
  clear z0 zq zr z1 z2 z3 hX hQ hRr
  go_upto_region 8 with (first
    | (clear T1
       refine wpList_new_page rfl rfl ?_
       intro w4 gp hbp hgp hop
       have HP1 := Lib.hid hbp
       have HOP := Lib.hid hop
       have HGP := Lib.hid hgp
       clear hbp hgp hop)
    | (refine wpList_store_page rfl _ _ rfl gp (0 :: ccO Q R X (wrap64 (-a)) a) (by rfl) (by rfl) H61.out _ HP1.out (by rfl) ?_
       intro w5 hb5 ho5
       have HB5 := Lib.hid hb5
       have HO5 := Lib.hid ((HO.out.trans HOP.out (by simp)).trans ho5 (fun k hk => .inr (by rw [List.mem_singleton.1 hk]; exact Nat.le_trans HO.out.size HGP.out)))
       clear hb5 ho5)
    | (refine wpList_load_mid rfl _ rfl gp (by rfl) 0 _ HB5.out H60.out ?_)
    | (clear T2
       refine wpList_new_cells rfl rfl ?_
       intro w6 gc hbc hgc hoc
       have HC6 := Lib.hid hbc
       have HO6 := Lib.hid (HO5.out.trans hoc (by simp))
       have HGC := Lib.hid (Nat.le_trans HO5.out.size hgc)
       clear hbc hgc hoc)
    | (refine wpList_store_cells rfl _ _ rfl gc (ccO Q R X (wrap64 (-a)) a) (by rfl) (by rfl) H60.out _ HC6.out (by rfl) ?_
       intro w7 hb7 ho7))
  have HO7 := Lib.hid (HO6.out.trans ho7 (fun k hk => .inr (by rw [List.mem_singleton.1 hk]; exact HGC.out)))
  have x0 : w7.cell? ⟨gc, 0, none⟩ = some (.int .i64 Q) := hb7.cell (by rfl)
  have x1 : w7.cell? ⟨gc, 1, none⟩ = some (.int .i64 R) := hb7.cell (by rfl)
  have x2 : w7.cell? ⟨gc, 2, none⟩ = some (.int .i64 X) := hb7.cell (by rfl)
  have x3 : w7.cell? ⟨gc, 3, none⟩ = some (.int .i64 (wrap64 (-a))) := hb7.cell (by rfl)
  have x4 : w7.cell? ⟨gc, 4, none⟩ = some (.int .i64 a) := hb7.cell (by rfl)
  have q1 := neq_nil
  have n1 : (wrap64 (a * b) != wrap64 (a * b)) = false := by simp
  have n2 : (wrap64 (-a) != wrap64 (-a)) = false := by simp
  have n3 : (a != a) = false := by simp
  have n4 : (a == a) = true := by simp
  clear hb7 ho7 HO HP1 HOP HGP HB5 HO5 HC6 HO6 HGC H61 H60
  by_cases h0 : b = 0
  · have h0' : (b == 0) = true := by simp [h0]
    obtain rfl : X = 0 := by rw [HX.out, h0]; exact Z0.out
    obtain rfl : Q = 0 := by rw [HQ.out, h0]; exact ZQ.out
    obtain rfl : R = 0 := by rw [HR.out, h0]; exact ZR.out
    clear h0
    go_wp2_with fail
    go_ret
    exact ⟨rfl, HO7.out⟩
  · have h0' : (b == 0) = false := by simpa using h0
    have hXa : X = a := HX.out.trans (Z1.out h0)
    subst hXa
    by_cases hr : R = 0
    · subst hr
      go_wp2_with fail
      go_ret
      exact ⟨rfl, HO7.out⟩
    · have hr' : (R == 0) = false := by simpa using hr
      have hs := Z3.out h0 (by rw [← HR.out]; exact hr)
      rw [← HR.out] at hs
      clear hr
      go_wp2_with fail
      go_ret
      exact ⟨rfl, HO7.out⟩

set_option maxRecDepth 100000 in
theorem eops_lifted (os : Os) (started : os.Started) (H : Type) (enc : TypeId × Value → H) :
    ReturnsInHanded {} Try.checked os 6 .any (Rows.evalOperatorsSpec.pre6 enc Try.prog Try.f6 Rows.evalOperatorsRow.domain false) (Rows.evalOperatorsSpec.post enc Try.prog Try.f6 false true false false) := by
  refine returnsInHanded_of_change (C := Try.checked) law_own started (by kernel_rfl) Try.func6
    (ChangeSpec.witness6 (enc := enc) (C := Try.checked) false ⟨#[], #[.int .i64 0, .int .i64 0], []⟩ 8 (by kernel_rfl) (by kernel_rfl) (by kernel_rfl) (by kernel_rfl)) ?_
  intro W base args ds gs before hval0 hW hcnd _
  have hval : ∀ (j : Nat) t v, Try.f6.params[j]? = some t → args[j]? = some v → Value.okWide Try.prog W .any base t v := hval0
  have hW' := hW
  obtain ⟨p, q, hA0, hV, rfl, hfz, hnd⟩ := hW
  have hA : DataW.TrodAll enc Try.prog W 0 (fun _ => true) true Try.f6.params.toList args.toList ds p := hA0
  rw [Try.params6] at hA hval
  obtain ⟨v0, vs0, d0, ds0, p0, q0, hargs, rfl, rfl, h0, r0⟩ := trodAll_cons hA
  obtain ⟨v1, vs1, d1, ds1, p1, q1, rfl, rfl, rfl, h1, r1⟩ := trodAll_cons r0
  obtain ⟨rfl, rfl, rfl⟩ := trodAll_nil r1
  obtain rfl : args = #[v0, v1] := by cases args; simp_all
  obtain ⟨rfl, rfl⟩ := trodVars_none hV
  obtain ⟨a0, rfl, rfl, rfl, w0⟩ := open_int Try.underlying3 (hval 0 3 v0 rfl rfl) h0
  obtain ⟨a1, rfl, rfl, rfl, w1⟩ := open_int Try.underlying3 (hval 1 3 v1 rfl rfl) h1
  clear hA0 hval0
  refine (eops_walk a0 a1  W w0 w1).mono fun e W' ⟨he, hg⟩ => ?_
  subst he
  exact ⟨_, rfl, post_quiet (pa := ([] ++ ([] ++ []))) (pv := []) hW' hg (fun _ _ _ => (trodAll_cons_mk (shut_bool Try.underlying4 _) trodAll_mk0)) (fun sp hsp => (trodAll_cons_mk (shut_int Try.underlying3 w0) (trodAll_cons_mk (shut_int Try.underlying3 w1) trodAll_mk0))) (fun _ _ => rfl) (by simp) (ok_one (by kernel_rfl) rfl (okWide_bool_mk Try.underlying4 _))⟩

theorem eops_over : Rows.evalOperatorsRow.holds Try.pinned (OpenSpec.ofChange Rows.evalOperatorsSpec) :=
  OpenClaim.holds_of_wide 6 Try.f6 rfl rfl rfl rfl rfl rfl rfl ⟨rfl, rfl, rfl, rfl, rfl⟩ rfl rfl rfl rfl rfl (by kernel_rfl) Try.func6 (by kernel_rfl)
    (of_decide_eq_true (by kernel_rfl)) (by unfold Func.isWrapper; first | (rw [if_pos (by decide +kernel)]; kernel_rfl) | (rw [if_neg (by decide +kernel)]; exact ⟨rfl, rfl⟩))
    (fun os started H enc _ => eops_lifted os started H enc)

/-- The statement. -/
theorem eops_holds : Rows.EvalOperatorsSaid :=
  eops_over
#print axioms eops_holds
end Go.Proofs.Ytiaeagpepfmfgaa
