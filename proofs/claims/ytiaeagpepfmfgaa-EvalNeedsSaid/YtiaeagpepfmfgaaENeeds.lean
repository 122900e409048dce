/- EvalNeeds, for every input: it returns true: needs are asked on the cells as they are ahead of all, and what is given is told of the cells behind all. No condition. -/
import Derived.Test.YtiaeagpepfmfgaaZb
import Derived.Test.YtiaeagpepfmfgaaL
import Derived.ChangeMaps5
namespace Go.Proofs.Ytiaeagpepfmfgaa
open Go.ChangeShapes Go.WideShapes Go.ChangeAt Go.RowKit Go.Maps
set_option linter.unusedVariables false
set_option linter.unusedSimpArgs false

theorem runP_eq {d : Df} {n : Int} {c av : List Int} (hf : (opS CS.new d).flt = none) (hl : av.length = d.params.length) :
    runP d n c av = if (exVs c (mP d.params av) d.needs).any (fun v => v == 0) = true then ((0, blankP), 0, 12)
      else ((n, (pgB d.body ⟨c, mP d.params av⟩).c), (exVs (pgB d.body ⟨c, mP d.params av⟩).c (pgB d.body ⟨c, mP d.params av⟩).m d.give).getD 0 0, 0) := by
  unfold runP
  rw [hf, if_neg (show ¬ (none : Option (Int × Int)).isSome = true by decide), if_neg (by simpa using hl)]
def txN : Sec := [111, 112, 32, 111, 40, 110, 44, 32, 118, 41, 32, 123, 32, 110, 101, 101, 100, 32, 91, 53, 93, 32, 61, 61, 32, 110, 59, 32, 110, 101, 101, 100, 32, 91, 54, 93, 32, 61, 61, 32, 48, 59, 32, 91, 53, 93, 32, 61, 32, 118, 59, 32, 91, 54, 93, 32, 60, 62, 32, 91, 53, 93, 59, 32, 103, 105, 118, 101, 32, 91, 54, 93, 32, 45, 32, 91, 53, 93, 59, 32, 125]
theorem parN : parseS txN = .ok (dfOf txN) := by kernel_rfl
theorem fltN : (opS CS.new (dfOf txN)).flt = none := by kernel_rfl
theorem lenN : (dfOf txN).params.length = 2 := by kernel_rfl
theorem needsN (x y z : Int) : exVs (blankP.set 5 x) (mP (dfOf txN).params [z, y]) (dfOf txN).needs = [opV [61, 61] x z, 1] := by kernel_rfl
theorem cellsN (x y z : Int) : (pgB (dfOf txN).body ⟨blankP.set 5 x, mP (dfOf txN).params [z, y]⟩).c = (blankP.set 5 0).set 6 y := by kernel_rfl
theorem giveN (x y z : Int) : (exVs (pgB (dfOf txN).body ⟨blankP.set 5 x, mP (dfOf txN).params [z, y]⟩).c (pgB (dfOf txN).body ⟨blankP.set 5 x, mP (dfOf txN).params [z, y]⟩).m (dfOf txN).give).getD 0 0 = wrap64 (y - 0) := by kernel_rfl
theorem needN_ne (x y z : Int) (h : x ≠ z) : runP (dfOf txN) 0 (blankP.set 5 x) [z, y] = ((0, blankP), 0, 12) := by
  rw [runP_eq fltN (by rw [lenN]; rfl), needsN, if_pos ?_]
  have : opV [61, 61] x z = 0 := by simp [opV, tr, h]
  rw [this]
  rfl
theorem needN_eq (x y z : Int) (h : x = z) (hy : n64 y) : runP (dfOf txN) 0 (blankP.set 5 x) [z, y] = ((0, (blankP.set 5 0).set 6 y), y, 0) := by
  have h1 : opV [61, 61] x z = 1 := by simp [opV, tr, h]
  rw [runP_eq fltN (by rw [lenN]; rfl), needsN, if_neg ?_, giveN, cellsN]
  · have : wrap64 (y - 0) = y := by unfold n64 at hy; unfold wrap64; omega
    rw [this]
  · rw [h1]
    decide
set_option maxRecDepth 100000 in
set_option maxHeartbeats 8000000 in
theorem eneeds_walk (x y z : Int) (w : World) (hx : (Lit.int .i64 x).wf = true) (hy : (Lit.int .i64 y).wf = true) (hz : (Lit.int .i64 z).wf = true) :
    Calls Try.prog 7 #[.int .i64 x, .int .i64 y, .int .i64 z] w fun e w' => e = .returned (.bool true) ∧ Only [] w w' := by
  have HNX := Lib.hid (wf_n64 hx)
  have HNY := Lib.hid (wf_n64 hy)
  have HNZ := Lib.hid (wf_n64 hz)
  clear hx hy hz
  have T1 := trivial
  have T2 := trivial
  go_enter Try.func7, Try.ntmps7
  go_wp2_with fail
  refine (alive9_any w).mono ?_
  rintro e w0 ⟨rfl, o0⟩
  have HO := Lib.hid o0
  clear o0
  go_wp2_with fail
  refine (parse_ok (d := dfOf txN) w0 (by decide) (show parseS _ = _ from parN)).mono ?_
  rintro e w1 ⟨sn, a1, a2, a3, a4, l1, l2, l3, l4, c1, c2, c3, c4, rfl, hdv, o1⟩
  have HDV := Lib.hid hdv.lt
  replace HO := Lib.hid (HO.out.trans o1 (by simp))
  have HWH := Lib.hid (parse_whole parN)
  have HPL := Lib.hid (parse_plain parN)
  have HGD := Lib.hid (parse_good parN)
  have R1 := Lib.hid (needN_ne x y z)
  have R2 := Lib.hid (fun h => needN_eq x y z h HNY.out)
  generalize dfOf txN = d at HDV HWH HPL HGD R1 R2
  clear hdv o1
  go_upto_region 4 with (fail)
  have oA := (Only.refl [] w1).alloc (.cells #[.string sn, .slice a1 l1 c1, .slice a2 l2 c2, .slice a3 l3 c3, .slice a4 l4 c4] 30)
  have hA := heap_new w1 (.cells #[.string sn, .slice a1 l1 c1, .slice a2 l2 c2, .slice a3 l3 c3, .slice a4 l4 c4] 30)
  obtain ⟨gd, hgd⟩ : ∃ g, g = w1.heap.size := ⟨_, rfl⟩
  rw [← hgd] at hA ⊢
  generalize w1.alloc (.cells #[.string sn, .slice a1 l1 c1, .slice a2 l2 c2, .slice a3 l3 c3, .slice a4 l4 c4] 30) = w2 at oA hA ⊢
  have h12 : w1.heap.size ≤ w2.heap.size := oA.size
  replace HO := Lib.hid (HO.out.trans oA (by simp))
  replace HDV := Lib.hid (HDV.out.kept oA (by simp) (fun _ h => h))
  have HA := Lib.hid hA
  clear oA hA hgd
  go_upto_region 7 with (first
    | (refine wpList_built rfl [] rfl (0 :: blankP) built_none ?_)
    | (clear T1
       refine wpList_new_page rfl rfl ?_
       intro w3 gp hbp hgp hop
       have HP3 := Lib.hid hbp
       have HOP := Lib.hid hop
       have HGP := Lib.hid hgp
       clear hbp hgp hop)
    | (refine wpList_store_page rfl _ _ rfl gp (0 :: blankP) (by rfl) (by rfl) (by rfl) _ HP3.out (by rfl) ?_
       intro w4 hb4 ho4))
  have o24 : Only [] w2 w4 := HOP.out.trans ho4 (fun k hk => .inr (by rw [List.mem_singleton.1 hk]; exact HGP.out))
  have hg1 : w1.heap.size ≤ gp := Nat.le_trans h12 HGP.out
  have hgw : w.heap.size ≤ gp := Nat.le_trans HO.out.size HGP.out
  replace HO := Lib.hid (HO.out.trans o24 (by simp))
  replace HDV := Lib.hid (HDV.out.kept o24 (by simp) (fun _ h => h))
  replace HA := Lib.hid (o24.heap HA.out (by simp))
  have x6 : w4.cell? ⟨gp, 6, none⟩ = some (.int .i64 0) := hb4.cell (by rfl)
  have f6 := hb4.free 6
  have hset := hb4.set 6 x
  have HSET := Lib.hid (show PB (w4.setCell ⟨gp, 6, none⟩ (.int .i64 x)) gp 35 (0 :: blankP.set 5 x) from hset)
  have hos : Only [gp] w4 (w4.setCell ⟨gp, 6, none⟩ (.int .i64 x)) := (Only.refl _ _).setCell (.inl (by simp)) _
  have hgd : gd ≠ gp := fun e => by
    have h1 := HA.out
    rw [e, hb4] at h1
    injection h1 with h2
    injection h2 with _ h3 _
    exact absurd h3 (by decide)
  have HOS := Lib.hid hos
  clear HP3 HOP HGP hb4 ho4 o24 hset hos
  go_upto_region 8 with (fail)
  generalize w4.setCell ⟨gp, 6, none⟩ (.int .i64 x) = w5 at HSET HOS ⊢
  replace HA := Lib.hid (HOS.out.heap HA.out (by simpa using hgd))
  replace HDV := Lib.hid (HDV.out.kept HOS.out (fun k hk h => by have := List.mem_singleton.1 hk; omega) (fun _ h => h))
  replace HO := Lib.hid (HO.out.trans HOS.out (fun k hk => .inr (by rw [List.mem_singleton.1 hk]; exact hgw)))
  clear x6 f6 HOS hg1 hgw hgd h12
  have y0 : w5.cell? ⟨gd, 0, none⟩ = some (.string sn) := cell_at 0 HA.out
  have y1 : w5.cell? ⟨gd, 1, none⟩ = some (.slice a1 l1 c1) := cell_at 1 HA.out
  have y2 : w5.cell? ⟨gd, 2, none⟩ = some (.slice a2 l2 c2) := cell_at 2 HA.out
  have y3 : w5.cell? ⟨gd, 3, none⟩ = some (.slice a3 l3 c3) := cell_at 3 HA.out
  have y4 : w5.cell? ⟨gd, 4, none⟩ = some (.slice a4 l4 c4) := cell_at 4 HA.out
  go_wp2_with (refine wpList_load_page rfl _ rfl gp (by rfl) (0 :: blankP.set 5 x) HSET.out (by rfl) ?_)
  have oS := (Only.refl [] w5).alloc (.cells #[.int .i64 z, .int .i64 y] 3)
  have KR := run_any (HDV.out.kept oS (by simp) (fun _ h => h)) HWH.out HPL.out HGD.out (cw_blank.set 5 HNX.out) (n := 0) (ints_two w5 HNZ.out HNY.out) (by show 2 ≤ maxLen; decide)
  by_cases hxz : x = z
  · rw [R2.out hxz] at KR
    refine KR.mono ?_
    rintro e w6 ⟨rfl, oR⟩
    rw [errV0]
    dsimp only
    replace HO := Lib.hid ((HO.out.trans oS (by simp)).trans oR (by simp))
    clear KR oS oR y0 y1 y2 y3 y4 HDV HWH HPL HGD R1 R2 HA HSET
    go_upto_region 9 with (first
      | (clear T2
         refine wpList_new_page rfl rfl ?_
         intro w7 gq hbp hgp hop
         have HP7 := Lib.hid hbp
         have HOP := Lib.hid hop
         have HGP := Lib.hid hgp
         clear hbp hgp hop)
      | (refine wpList_store_page rfl _ _ rfl gq (0 :: (blankP.set 5 0).set 6 y) (by rfl) (by rfl) (by rfl) _ HP7.out (by rfl) ?_
         intro w8 hb8 ho8))
    have HO8 := Lib.hid ((HO.out.trans HOP.out (by simp)).trans ho8 (fun k hk => .inr (by rw [List.mem_singleton.1 hk]; exact Nat.le_trans HO.out.size HGP.out)))
    have x6 : w8.cell? ⟨gq, 6, none⟩ = some (.int .i64 0) := hb8.cell (by rfl)
    have x7 : w8.cell? ⟨gq, 7, none⟩ = some (.int .i64 y) := hb8.cell (by rfl)
    have q1 := nil_nil9
    have n1 : (x != z) = false := by simp [hxz]
    have n2 : (y == y) = true := by simp
    clear hb8 ho8 HO HP7 HOP HGP hxz
    go_wp2_with fail
    go_ret
    exact ⟨rfl, HO8.out⟩
  · rw [R1.out hxz] at KR
    refine KR.mono ?_
    rintro e w6 ⟨rfl, oR⟩
    rw [errV12]
    dsimp only
    replace HO := Lib.hid ((HO.out.trans oS (by simp)).trans oR (by simp))
    clear KR oS oR y0 y1 y2 y3 y4 HDV HWH HPL HGD R1 R2 HA HSET
    go_upto_region 9 with (first
      | (clear T2
         refine wpList_new_page rfl rfl ?_
         intro w7 gq hbp hgp hop
         have HP7 := Lib.hid hbp
         have HOP := Lib.hid hop
         have HGP := Lib.hid hgp
         clear hbp hgp hop)
      | (refine wpList_store_page rfl _ _ rfl gq (0 :: blankP) (by rfl) (by rfl) (by rfl) _ HP7.out (by rfl) ?_
         intro w8 hb8 ho8))
    have HO8 := Lib.hid ((HO.out.trans HOP.out (by simp)).trans ho8 (fun k hk => .inr (by rw [List.mem_singleton.1 hk]; exact Nat.le_trans HO.out.size HGP.out)))
    have HB8 := Lib.hid hb8
    have q1 := e12_e12
    have n1 : (x != z) = true := by simpa using hxz
    have d2 : (decide ((0 : Int) = 0) && decide (blankP = blankP)) = true := by decide
    have H61 : Hid (((0 : Int) :: blankP).length = 61) := Lib.hid (by rfl)
    clear hb8 ho8 HO HP7 HOP HGP hxz
    go_upto_region 10 with (fail)
    go_simp
    repeat (first
      | (guard_target =~ Oper.wp _ (Oper.mk (some 44) _ _ _ _ _) _ _ _ _; refine wp_page_load (.tmp 11) rfl gq (by rfl) (0 :: blankP) HB8.out H61.out ?_; simp only [Act.put, List.setIfInBounds_toArray, List.set_cons_zero, List.set_cons_succ])
      | (guard_target =~ Oper.wp _ (Oper.mk (some 45) _ _ _ _ _) _ _ _ _; refine wp_page_built [] rfl (0 :: blankP) built_none ?_; simp only [Act.put, List.setIfInBounds_toArray, List.set_cons_zero, List.set_cons_succ])
      | (guard_target =~ Oper.wp _ (Oper.mk (some 46) _ _ _ _ _) _ _ _ _; refine wp_page_eql (.tmp 44) (.tmp 45) rfl 0 0 blankP blankP (by rfl) (by rfl) (by rfl) (by rfl) ?_; rw [d2]; simp only [Act.put, List.setIfInBounds_toArray, List.set_cons_zero, List.set_cons_succ])
      | go_values | go_skip | go_guarded | go_step | go_upon)
    go_ret
    exact ⟨rfl, HO8.out⟩

set_option maxRecDepth 100000 in
theorem eneeds_lifted (os : Os) (started : os.Started) (H : Type) (enc : TypeId × Value → H) :
    ReturnsInHanded {} Try.checked os 7 .any (Rows.evalNeedsSpec.pre6 enc Try.prog Try.f7 Rows.evalNeedsRow.domain false) (Rows.evalNeedsSpec.post enc Try.prog Try.f7 false true false false) := by
  refine returnsInHanded_of_change (C := Try.checked) law_own started (by kernel_rfl) Try.func7
    (ChangeSpec.witness6 (enc := enc) (C := Try.checked) false ⟨#[], #[.int .i64 0, .int .i64 0, .int .i64 0], []⟩ 8 (by kernel_rfl) (by kernel_rfl) (by kernel_rfl) (by kernel_rfl)) ?_
  intro W base args ds gs before hval0 hW hcnd _
  have hval : ∀ (j : Nat) t v, Try.f7.params[j]? = some t → args[j]? = some v → Value.okWide Try.prog W .any base t v := hval0
  have hW' := hW
  obtain ⟨p, q, hA0, hV, rfl, hfz, hnd⟩ := hW
  have hA : DataW.TrodAll enc Try.prog W 0 (fun _ => true) true Try.f7.params.toList args.toList ds p := hA0
  rw [Try.params7] at hA hval
  obtain ⟨v0, vs0, d0, ds0, p0, q0, hargs, rfl, rfl, h0, r0⟩ := trodAll_cons hA
  obtain ⟨v1, vs1, d1, ds1, p1, q1, rfl, rfl, rfl, h1, r1⟩ := trodAll_cons r0
  obtain ⟨v2, vs2, d2, ds2, p2, q2, rfl, rfl, rfl, h2, r2⟩ := trodAll_cons r1
  obtain ⟨rfl, rfl, rfl⟩ := trodAll_nil r2
  obtain rfl : args = #[v0, v1, v2] := by cases args; simp_all
  obtain ⟨rfl, rfl⟩ := trodVars_none hV
  obtain ⟨a0, rfl, rfl, rfl, w0⟩ := open_int Try.underlying3 (hval 0 3 v0 rfl rfl) h0
  obtain ⟨a1, rfl, rfl, rfl, w1⟩ := open_int Try.underlying3 (hval 1 3 v1 rfl rfl) h1
  obtain ⟨a2, rfl, rfl, rfl, w2⟩ := open_int Try.underlying3 (hval 2 3 v2 rfl rfl) h2
  clear hA0 hval0
  refine (eneeds_walk a0 a1 a2  W w0 w1 w2).mono fun e W' ⟨he, hg⟩ => ?_
  subst he
  exact ⟨_, rfl, post_quiet (pa := ([] ++ ([] ++ ([] ++ [])))) (pv := []) hW' hg (fun _ _ _ => (trodAll_cons_mk (shut_bool Try.underlying4 _) trodAll_mk0)) (fun sp hsp => (trodAll_cons_mk (shut_int Try.underlying3 w0) (trodAll_cons_mk (shut_int Try.underlying3 w1) (trodAll_cons_mk (shut_int Try.underlying3 w2) trodAll_mk0)))) (fun _ _ => rfl) (by simp) (ok_one (by kernel_rfl) rfl (okWide_bool_mk Try.underlying4 _))⟩

theorem eneeds_over : Rows.evalNeedsRow.holds Try.pinned (OpenSpec.ofChange Rows.evalNeedsSpec) :=
  OpenClaim.holds_of_wide 7 Try.f7 rfl rfl rfl rfl rfl rfl rfl ⟨rfl, rfl, rfl, rfl, rfl⟩ rfl rfl rfl rfl rfl (by kernel_rfl) Try.func7 (by kernel_rfl)
    (of_decide_eq_true (by kernel_rfl)) (by unfold Func.isWrapper; first | (rw [if_pos (by decide +kernel)]; kernel_rfl) | (rw [if_neg (by decide +kernel)]; exact ⟨rfl, rfl⟩))
    (fun os started H enc _ => eneeds_lifted os started H enc)

/-- The statement. -/
theorem eneeds_holds : Rows.EvalNeedsSaid :=
  eneeds_over
#print axioms eneeds_holds
end Go.Proofs.Ytiaeagpepfmfgaa
