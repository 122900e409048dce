/- CheckSteps, for every input: it returns true, and its arguments read behind the call as they did: loops within loops are counted, and refused where they take too many rounds or steps. No condition. -/
import Derived.Test.YtjcpmfdgcomfgaaKd
import Derived.Test.YtjcpmfdgcomfgaaL
import Derived.ChangeMaps5
namespace Go.Proofs.Ytjcpmfdgcomfgaa
open Go.ChangeShapes Go.WideShapes Go.ChangeAt Go.RowKit Go.Maps
set_option linter.unusedVariables false
set_option linter.unusedSimpArgs false

theorem mod_nat (m : Nat) (h0 : 1 ≤ m) (h1 : m ≤ 4096) (x : Int) : ∃ n : Nat, n < m ∧ IntKind.i64.wrap ((IntKind.u64.wrap x).tmod m) = (n : Int) := by
  have h : 0 ≤ IntKind.u64.wrap x := by rw [IntKind.wrap_u64]; omega
  rw [Int.tmod_eq_emod_of_nonneg h]
  have a := Int.emod_nonneg (IntKind.u64.wrap x) (show (m : Int) ≠ 0 by omega)
  have b := Int.emod_lt_of_pos (IntKind.u64.wrap x) (show (0 : Int) < m by omega)
  generalize (IntKind.u64.wrap x) % (m : Int) = y at a b
  refine ⟨y.toNat, by omega, ?_⟩
  rw [IntKind.wrap_i64]
  omega
set_option maxRecDepth 100000 in
set_option maxHeartbeats 4000000 in
theorem ksteps_walk (a b : Int) (w : World) (ha : (Lit.int .i64 a).wf = true) (hb : (Lit.int .i64 b).wf = true) :
    Calls Try.prog 6 #[.int .i64 a, .int .i64 b] w fun e w' => e = .returned (.bool true) ∧ Only [] w w' := by
  obtain ⟨na, hna, ea⟩ := mod_nat 66 (by decide) (by decide) a
  obtain ⟨nb, hnb, eb⟩ := mod_nat 66 (by decide) (by decide) b
  have ea : IntKind.i64.wrap ((IntKind.u64.wrap a).tmod 66) = (na : Int) := ea
  have eb : IntKind.i64.wrap ((IntKind.u64.wrap b).tmod 66) = (nb : Int) := eb
  clear ha hb
  go_enter Try.func6, Try.ntmps6
  go_wp2_with fail
  refine (alive8_any w).mono ?_
  rintro e w1 ⟨rfl, o1⟩
  have HO := Lib.hid o1
  clear o1
  have l1 := dec2_len na
  have l2 := dec2_len nb
  have D1 := Decimal_any na w1 (by omega)
  rw [decL_two (show na < 100 by omega)] at D1
  have q1 := fun w => add_str (a := stA) (b := dec2 na) (c := stA ++ dec2 na) rfl (by rw [List.length_append, show stA.length = 21 from rfl]; omega) (A := ⟨#[111, 112, 32, 111, 40, 41, 32, 123, 32, 102, 111, 114, 32, 105, 32, 105, 110, 32, 48, 46, 46]⟩) rfl rfl rfl w
  have q2 := fun w => add_str (a := stA ++ dec2 na) (b := stB') (c := stA ++ dec2 na ++ stB') rfl (by simp only [List.length_append]; rw [show stA.length = 21 from rfl, show stB'.length = 15 from rfl]; omega) rfl (B := ⟨#[32, 123, 32, 102, 111, 114, 32, 106, 32, 105, 110, 32, 48, 46, 46]⟩) rfl rfl w
  have q3 := fun w => add_str (a := stA ++ dec2 na ++ stB') (b := dec2 nb) (c := stA ++ dec2 na ++ stB' ++ dec2 nb) rfl (by simp only [List.length_append]; rw [show stA.length = 21 from rfl, show stB'.length = 15 from rfl]; omega) rfl rfl rfl w
  have q4 := fun w => add_str (a := stA ++ dec2 na ++ stB' ++ dec2 nb) (b := stC) (c := txS na nb) rfl (by unfold txS; simp only [List.length_append]; rw [show stA.length = 21 from rfl, show stB'.length = 15 from rfl, show stC.length = 18 from rfl]; omega) rfl (B := ⟨#[32, 123, 32, 91, 48, 93, 32, 43, 61, 32, 49, 59, 32, 125, 32, 125, 32, 125]⟩) rfl rfl w
  have hT : (strOf (txS na nb)).data.toList = txS na nb := by simp [strOf]
  have hTs : (strOf (txS na nb)).size ≤ 9223372036854775807 := by
    rw [strOf_len]
    unfold txS
    simp only [List.length_append]
    rw [show stA.length = 21 from rfl, show stB'.length = 15 from rfl, show stC.length = 18 from rfl]
    omega
  have hR : chkS (txS na nb) = (chkD (dfS na nb (21 + (dec2 na).length) (36 + (dec2 na).length + (dec2 nb).length)), true) := by
    unfold chkS
    rw [parse_steps (by omega) (by omega)]
    rfl
  have hok : okSteps na nb = true := by
    have := List.all_eq_true.1 steps_all na (List.mem_range.2 hna)
    exact List.all_eq_true.1 this nb (List.mem_range.2 hnb)
  unfold okSteps at hok
  dsimp only at hok
  generalize chkD (dfS na nb (21 + (dec2 na).length) (36 + (dec2 na).length + (dec2 nb).length)) = R at hR hok
  have HT := Lib.hid (And.intro hT hTs)
  have HR := Lib.hid hR
  have HOK := Lib.hid hok
  generalize strOf (txS na nb) = T at q4 HT
  generalize strOf (stA ++ dec2 na ++ stB' ++ dec2 nb) = T3 at q3 q4
  generalize strOf (stA ++ dec2 na ++ stB') = T2 at q2 q3
  generalize strOf (stA ++ dec2 na) = T1 at q1 q2
  generalize strOf (dec2 na) = D at q1 D1
  clear hR hok hT hTs l1 l2
  go_upto_region 4 with (fail)
  go_wp2_with fail
  refine D1.mono ?_
  rintro e w2 ⟨rfl, o2⟩
  replace HO := Lib.hid (HO.out.trans o2 (by simp))
  have D2 := Decimal_any nb w2 (by omega)
  rw [decL_two (show nb < 100 by omega)] at D2
  clear D1 o2
  generalize strOf (dec2 nb) = DB at q3 D2
  go_wp2_with fail
  refine D2.mono ?_
  rintro e w3 ⟨rfl, o3⟩
  replace HO := Lib.hid (HO.out.trans o3 (by simp))
  clear D2 o3
  go_upto_region 5 with (fail)
  have K1 := checked_any T w3 HT.out.2
  rw [HT.out.1, HR.out] at K1
  clear q1 q2 q3 q4
  go_wp2_with fail
  refine K1.mono ?_
  rintro e w4 ⟨rfl, o4⟩
  obtain ⟨⟨m, st, nm, tu⟩, c, p⟩ := R
  unfold infoV
  dsimp only
  replace HO := Lib.hid (HO.out.trans o4 (by simp))
  have hok := HOK.out
  simp only at hok
  clear K1 o4 HOK HR HT
  obtain ⟨st', hst⟩ : ∃ x : Int, x = st := ⟨_, rfl⟩
  obtain ⟨nm', hnm⟩ : ∃ x : Int, x = nm := ⟨_, rfl⟩
  rw [← hst, ← hnm]
  have HST := Lib.hid (And.intro hst hnm)
  have HOK := Lib.hid hok
  clear hst hnm hok
  go_upto_region 6 with (fail)
  have o5 := (Only.refl [] w4).alloc (.cells #[.int .i64 m, .int .i64 st', .int .i64 nm', .bool tu] 31)
  have hX := heap_new w4 (.cells #[.int .i64 m, .int .i64 st', .int .i64 nm', .bool tu] 31)
  generalize w4.alloc (.cells #[.int .i64 m, .int .i64 st', .int .i64 nm', .bool tu] 31) = w5 at o5 hX ⊢
  replace HO := Lib.hid (HO.out.trans o5 (by simp))
  have x0 : w5.cell? ⟨w4.heap.size, 0, none⟩ = some (.int .i64 m) := cell_at 0 hX
  have x1 : w5.cell? ⟨w4.heap.size, 1, none⟩ = some (.int .i64 st') := cell_at 1 hX
  have x2 : w5.cell? ⟨w4.heap.size, 2, none⟩ = some (.int .i64 nm') := cell_at 2 hX
  have x3 : w5.cell? ⟨w4.heap.size, 3, none⟩ = some (.bool tu) := cell_at 3 hX
  clear o5 hX
  go_upto_region 7 with (fail)
  obtain ⟨Z, hZ⟩ : ∃ Z : Nat, Z = 1 + na * (2 + nb * 4) := ⟨_, rfl⟩
  have hZl : na * (2 + nb * 4) ≤ 65 * 262 := Nat.mul_le_mul (by omega) (by omega)
  have hZw : wrap64 (1 + wrap64 ((na : Int) * (2 + (nb : Int) * 4))) = (Z : Int) := by
    have e : (na : Int) * (2 + (nb : Int) * 4) = ((na * (2 + nb * 4) : Nat) : Int) := by push_cast; rfl
    rw [e]
    generalize na * (2 + nb * 4) = y at hZ hZl
    rw [wrap64_id (n := (y : Int)) (by omega) (by omega), wrap64_id (by omega) (by omega), hZ]
    push_cast
    rfl
  rw [hZw]
  have hok := HOK.out
  rw [← hZ] at hok
  have HST2 := HST
  clear hZw hZ hZl HOK ea eb
  by_cases h64 : 64 < na
  · rw [if_pos h64] at hok
    simp only [Bool.and_eq_true, beq_iff_eq] at hok
    obtain ⟨rfl, rfl⟩ := hok
    have hd : (64 : Int) < (na : Int) := by omega
    go_wp2_with fail
    go_ret
    exact ⟨rfl, HO.out⟩
  · rw [if_neg h64] at hok
    have hd : ¬ (64 : Int) < (na : Int) := by omega
    by_cases h65 : 64 < nb
    · rw [if_pos h65] at hok
      simp only [Bool.and_eq_true, beq_iff_eq, decide_eq_true_eq] at hok
      obtain ⟨rfl, hp⟩ := hok
      have hd2 : (64 : Int) < (nb : Int) := by omega
      go_wp2_with fail
      go_ret
      exact ⟨rfl, HO.out⟩
    · rw [if_neg h65] at hok
      have hd2 : ¬ (64 : Int) < (nb : Int) := by omega
      by_cases hz : 2048 < Z
      · rw [if_pos hz] at hok
        simp only [Bool.and_eq_true, beq_iff_eq] at hok
        obtain ⟨rfl, rfl⟩ := hok
        have hd3 : (2048 : Int) < (Z : Int) := by omega
        go_wp2_with fail
        go_ret
        exact ⟨rfl, HO.out⟩
      · rw [if_neg hz] at hok
        simp only [Bool.and_eq_true, beq_iff_eq] at hok
        obtain ⟨⟨⟨⟨rfl, h1⟩, rfl⟩, h2⟩, rfl⟩ := hok
        have hs1 : st' = (Z : Int) := by rw [HST.out.1, h1]
        have hs2 : nm' = 2 := by rw [HST.out.2, h2]; rfl
        subst hs1
        subst hs2
        have hd3 : ¬ (2048 : Int) < (Z : Int) := by omega
        clear h1 h2
        go_wp2_with fail
        go_ret
        exact ⟨rfl, HO.out⟩

set_option maxRecDepth 100000 in
theorem ksteps_lifted (os : Os) (started : os.Started) (H : Type) (enc : TypeId × Value → H) :
    ReturnsInHanded {} Try.checked os 6 .any (Rows.checkStepsSpec.pre6 enc Try.prog Try.f6 Rows.checkStepsRow.domain false) (Rows.checkStepsSpec.post enc Try.prog Try.f6 false true false false) := by
  refine returnsInHanded_of_change (C := Try.checked) law_own started (by kernel_rfl) Try.func6
    (ChangeSpec.witness6 (enc := enc) (C := Try.checked) false ⟨#[], #[.int .i64 0, .int .i64 0], []⟩ 8 (by kernel_rfl) (by kernel_rfl) (by kernel_rfl) (by kernel_rfl)) ?_
  intro W base args ds gs before hval0 hW hcnd _
  have hval : ∀ (j : Nat) t v, Try.f6.params[j]? = some t → args[j]? = some v → Value.okWide Try.prog W .any base t v := hval0
  have hW' := hW
  obtain ⟨p, q, hA0, hV, rfl, hfz, hnd⟩ := hW
  have hA : DataW.TrodAll enc Try.prog W 0 (fun _ => true) true Try.f6.params.toList args.toList ds p := hA0
  rw [Try.params6] at hA hval
  obtain ⟨v0, vs0, d0, ds0, p0, q0, hargs, rfl, rfl, h0, r0⟩ := trodAll_cons hA
  obtain ⟨v1, vs1, d1, ds1, p1, q1, rfl, rfl, rfl, h1, r1⟩ := trodAll_cons r0
  obtain ⟨rfl, rfl, rfl⟩ := trodAll_nil r1
  obtain rfl : args = #[v0, v1] := by cases args; simp_all
  obtain ⟨rfl, rfl⟩ := trodVars_none hV
  obtain ⟨a0, rfl, rfl, rfl, w0⟩ := open_int Try.underlying3 (hval 0 3 v0 rfl rfl) h0
  obtain ⟨a1, rfl, rfl, rfl, w1⟩ := open_int Try.underlying3 (hval 1 3 v1 rfl rfl) h1
  clear hA0 hval0
  refine (ksteps_walk a0 a1  W w0 w1).mono fun e W' ⟨he, hg⟩ => ?_
  subst he
  exact ⟨_, rfl, post_quiet (pa := ([] ++ ([] ++ []))) (pv := []) hW' hg (fun _ _ _ => (trodAll_cons_mk (shut_bool Try.underlying4 _) trodAll_mk0)) (fun sp hsp => (trodAll_cons_mk (shut_int Try.underlying3 w0) (trodAll_cons_mk (shut_int Try.underlying3 w1) trodAll_mk0))) (fun _ _ => rfl) (by simp) (ok_one (by kernel_rfl) rfl (okWide_bool_mk Try.underlying4 _))⟩

theorem ksteps_over : Rows.checkStepsRow.holds Try.pinned (OpenSpec.ofChange Rows.checkStepsSpec) :=
  OpenClaim.holds_of_wide 6 Try.f6 rfl rfl rfl rfl rfl rfl rfl ⟨rfl, rfl, rfl, rfl, rfl⟩ rfl rfl rfl rfl rfl (by kernel_rfl) Try.func6 (by kernel_rfl)
    (of_decide_eq_true (by kernel_rfl)) (by unfold Func.isWrapper; first | (rw [if_pos (by decide +kernel)]; kernel_rfl) | (rw [if_neg (by decide +kernel)]; exact ⟨rfl, rfl⟩))
    (fun os started H enc _ => ksteps_lifted os started H enc)

/-- The statement. -/
theorem ksteps_holds : Rows.CheckStepsSaid :=
  ksteps_over
#print axioms ksteps_holds
end Go.Proofs.Ytjcpmfdgcomfgaa
