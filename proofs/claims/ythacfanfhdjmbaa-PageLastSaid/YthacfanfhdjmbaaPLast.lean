/- PageLast, for every input: it returns true, and its argument reads behind the call as it did: of images of one cell the last one counts, and Set of none changes nothing. No condition. -/
import Derived.Test.YthacfanfhdjmbaaPA
namespace Go.Proofs.Ythacfanfhdjmbaa
open Go.ChangeShapes Go.WideShapes Go.ChangeAt Go.RowKit Go.Deep Go.Maps
set_option linter.unusedSimpArgs false
set_option linter.unusedVariables false

theorem imgs_two (w : World) (x y z t : Int) (hx : In64 x) (hy : In64 y) (hz : In64 z) (ht : In64 t) :
    ImgsV (w.alloc (.cells #[.int .i64 x, .int .i64 y, .int .i64 z, .int .i64 t] 46)) (.slice (some ⟨w.heap.size, 0, none⟩) 2 2) [(x, y), (z, t)] := by
  have h := heap_new w (.cells #[.int .i64 x, .int .i64 y, .int .i64 z, .int .i64 t] 46)
  refine ⟨_, 2, rfl, fun i p hi => ?_⟩
  match i with
  | 0 =>
    simp at hi
    subst hi
    exact ⟨⟨hx, hy⟩, _, 0, rfl, by rw [cell_at _ h]; rfl, by rw [cell_at _ h]; rfl⟩
  | 1 =>
    simp at hi
    subst hi
    exact ⟨⟨hz, ht⟩, _, 0, rfl, by rw [cell_at _ h]; rfl, by rw [cell_at _ h]; rfl⟩
  | i + 2 => simp at hi
theorem imgs_nil (w : World) : ImgsV w (.slice none 0 0) [] := ⟨none, 0, rfl, fun i p hi => by simp at hi⟩
theorem setR_two (c : List Int) (k : Nat) (a b : Int) (hk : k < 60) : setR c [((k : Int), a), ((k : Int), b)] = some (c.set k b) := by
  have h : 0 ≤ (k : Int) ∧ (k : Int) < 60 := by omega
  simp only [setR, if_pos h, Int.toNat_natCast, List.set_set]
theorem setR_over (c : List Int) (k : Nat) (a : Int) (hk : k < 60) : setR c [((k : Int), a), (60 + (k : Int), 0)] = none := by
  have h : 0 ≤ (k : Int) ∧ (k : Int) < 60 := by omega
  have h2 : ¬ (0 ≤ 60 + (k : Int) ∧ 60 + (k : Int) < 60) := by omega
  simp only [setR, if_pos h, if_neg h2]
theorem dif_one (c : List Int) (k : Nat) (b : Int) : ∀ n, (dif (c.set k b) c n).length ≤ if k < n then 1 else 0
  | 0 => by simp [dif]
  | n + 1 => by
    have ih := dif_one c k b n
    rw [dif_succ, List.length_append]
    by_cases h : n = k
    · subst h
      rw [if_neg (by omega)] at ih
      have e1 : (if n < n + 1 then 1 else 0) = 1 := if_pos (by omega)
      rw [e1]
      split
      · simp only [List.length_nil]
        omega
      · simp only [List.length_cons, List.length_nil]
        omega
    · have e : (c.set k b).getD n 0 = c.getD n 0 := by
        rw [List.getD_eq_getElem?_getD, List.getD_eq_getElem?_getD, List.getElem?_set_ne (by omega)]
      rw [if_pos e]
      by_cases hk : k < n
      · rw [if_pos hk] at ih
        rw [if_pos (by omega)]
        simpa using ih
      · rw [if_neg hk] at ih
        rw [if_neg (by omega)]
        simpa using ih

set_option maxRecDepth 100000 in
set_option maxHeartbeats 1600000 in
theorem order_any (v : Value) (at_ a b : Int) (l : List Int) (w : World) (hv : IntsV w v l) (hl : l.length ≤ maxLen) (hat : (Lit.int .i64 at_).wf = true) (ha : (Lit.int .i64 a).wf = true) (hb : (Lit.int .i64 b).wf = true) :
    Calls Try.prog 22 #[v, .int .i64 at_, .int .i64 a, .int .i64 b] w fun e w' => e = .returned (.bool true) ∧ Only [] w w' := by
  have hl' : l.length ≤ 9223372036854775807 := by unfold maxLen at hl; omega
  have hia := in64_wf ha
  have hib := in64_wf hb
  obtain ⟨va, vc, rfl, -⟩ := id hv
  have HV := Lib.hid hv
  have hfl := filC_length l 60
  clear hv hl ha hb hat
  go_enter Try.func22, Try.ntmps22
  go_wp2_with fail
  refine (alive5_any _).mono ?_
  rintro e w1 ⟨rfl, o1⟩
  have HO1 := Lib.hid o1
  clear o1
  go_wp2_with fail
  refine (filled_any 4 _ l w1 (HV.out.kept HO1.out (by intro a n c e h; simp)) hl').mono ?_
  rintro e w2 ⟨rfl, o2⟩
  have HO2 := Lib.hid (HO1.out.trans o2 (by simp))
  obtain ⟨c, hc⟩ : ∃ c, c = filC l 60 := ⟨_, rfl⟩
  rw [← hc] at hfl ⊢
  have HFL := Lib.hid hfl
  have HL1 : Hid ((4 :: c).length = 61) := Lib.hid (by rw [List.length_cons, hfl])
  clear hc hfl HV HO1 o2 hl'
  obtain ⟨u, hu⟩ : ∃ u : Nat, IntKind.u64.wrap at_ = (u : Int) := ⟨(IntKind.u64.wrap at_).toNat, by rw [IntKind.wrap_u64]; omega⟩
  have hu2 : u < 18446744073709551616 := by rw [IntKind.wrap_u64] at hu; omega
  obtain ⟨k, hi⟩ : ∃ k : Nat, k = u % 60 := ⟨_, rfl⟩
  have hk : k < 60 := by omega
  have hmod : (u : Int) % 60 = (k : Int) := by omega
  clear hi
  have T1 := trivial
  go_wp2_with (first
    | (clear T1
       refine wpList_new_page rfl rfl ?_
       intro w3 g3 hb3 hg3 ho3
       have HB3 := Lib.hid hb3
       have HG3 := Lib.hid (Nat.le_trans HO2.out.size hg3)
       have HO3 := Lib.hid (HO2.out.trans ho3 (by simp))
       clear hb3 hg3 ho3)
    | (refine wpList_store_page rfl _ _ rfl g3 (4 :: c) (by rfl) (by rfl) HL1.out _ HB3.out (by rfl) ?_
       intro w4 hb4 ho4
       have HB4 := Lib.hid hb4
       have HO4 := Lib.hid (HO3.out.trans ho4 (by simp; exact HG3.out))
       clear hb4 ho4)
    | (refine wpList_load_page rfl _ rfl g3 (by rfl) (4 :: c) HB4.out HL1.out ?_))
  clear hu hmod HB3 HO3
  have hik : In64 (k : Int) := by constructor <;> omega
  have I5 := imgs_two w4 k a k b hik hia hik hib
  have o5 : Only [] w4 (w4.alloc (.cells #[.int .i64 (k : Int), .int .i64 a, .int .i64 (k : Int), .int .i64 b] 46)) := (Only.refl [] w4).alloc _
  generalize w4.alloc (.cells #[.int .i64 (k : Int), .int .i64 a, .int .i64 (k : Int), .int .i64 b] 46) = w5 at I5 o5 ⊢
  refine (Set_any 4 c _ _ w5 HFL.out I5 (by simp)).mono ?_
  rintro e w6 ⟨o6, hs6, -⟩
  obtain rfl := hs6 _ (setR_two c k a b hk)
  have HB6 := Lib.hid ((HB4.out.kept o5 (by simp)).kept o6 (by simp))
  have HO6 := Lib.hid ((HO4.out.trans o5 (by simp)).trans o6 (by simp))
  have HL2 : Hid ((4 :: c.set k b).length = 61) := Lib.hid (by rw [List.length_cons, List.length_set, HFL.out])
  clear o5 I5 o6 hs6 HB4 HO4
  have T2 := trivial
  go_wp2_with (first
    | (clear T2
       refine wpList_new_page rfl rfl ?_
       intro w7 g7 hb7 hg7 ho7
       have hne7 : g7 ≠ g3 := by have := HB6.out.lt; omega
       have HB7 := Lib.hid (HB6.out.kept ho7 (by simp))
       have HC7 := Lib.hid hb7
       have HG7 := Lib.hid (Nat.le_trans HO6.out.size hg7)
       have HO7 := Lib.hid (HO6.out.trans ho7 (by simp))
       clear hb7 hg7 ho7)
    | (refine wpList_store_page rfl _ _ rfl g7 (4 :: c.set k b) (by rfl) (by rfl) HL2.out _ HC7.out (by rfl) ?_
       intro w8 hb8 ho8
       have HB8 := Lib.hid (HB7.out.kept ho8 (by simp; omega))
       have HC8 := Lib.hid hb8
       have HO8 := Lib.hid (HO7.out.trans ho8 (by simp; exact HG7.out))
       clear hb8 ho8)
    | (refine wpList_load_page rfl _ rfl g3 (by rfl) (4 :: c) HB8.out HL1.out ?_))
  refine (Set_any 4 c _ [] w8 HFL.out (imgs_nil w8) (by simp)).mono ?_
  rintro e w9 ⟨o9, hs9, -⟩
  obtain rfl := hs9 c rfl
  have HB9 := Lib.hid (HB8.out.kept o9 (by simp))
  have HC9 := Lib.hid (HC8.out.kept o9 (by simp))
  have HO9 := Lib.hid (HO8.out.trans o9 (by simp))
  clear o9 hs9 HB8 HC8 HO8 HB7 HC7 HO7 HB6 HO6
  have T3 := trivial
  go_wp2_with (first
    | (clear T3
       refine wpList_new_page rfl rfl ?_
       intro w10 g10 hb10 hg10 ho10
       have hneA : g10 ≠ g3 := by have := HB9.out.lt; omega
       have hneB : g10 ≠ g7 := by have := HC9.out.lt; omega
       have HB10 := Lib.hid (HB9.out.kept ho10 (by simp))
       have HC10 := Lib.hid (HC9.out.kept ho10 (by simp))
       have HD10 := Lib.hid hb10
       have HG10 := Lib.hid (Nat.le_trans HO9.out.size hg10)
       have HO10 := Lib.hid (HO9.out.trans ho10 (by simp))
       clear hb10 hg10 ho10)
    | (refine wpList_store_page rfl _ _ rfl g10 (4 :: c) (by rfl) (by rfl) HL1.out _ HD10.out (by rfl) ?_
       intro w11 hb11 ho11
       have HB11 := Lib.hid (HB10.out.kept ho11 (by simp; omega))
       have HC11 := Lib.hid (HC10.out.kept ho11 (by simp; omega))
       have HD11 := Lib.hid hb11
       have HO11 := Lib.hid (HO10.out.trans ho11 (by simp; exact HG10.out))
       clear hb11 ho11)
    | (refine wpList_load_page rfl _ rfl g3 (by rfl) (4 :: c) HB11.out HL1.out ?_))
  have I12 := imgs_two w11 k a (60 + k) 0 hik hia (by constructor <;> omega) (by decide)
  have o12 : Only [] w11 (w11.alloc (.cells #[.int .i64 (k : Int), .int .i64 a, .int .i64 (60 + (k : Int)), .int .i64 0] 46)) := (Only.refl [] w11).alloc _
  generalize w11.alloc (.cells #[.int .i64 (k : Int), .int .i64 a, .int .i64 (60 + (k : Int)), .int .i64 0] 46) = w12 at I12 o12 ⊢
  refine (Set_any 4 c _ _ w12 HFL.out I12 (by simp)).mono ?_
  rintro e w13 ⟨o13, -, hn13⟩
  obtain rfl := hn13 (setR_over c k a hk)
  have HB13 := Lib.hid ((HB11.out.kept o12 (by simp)).kept o13 (by simp))
  have HC13 := Lib.hid ((HC11.out.kept o12 (by simp)).kept o13 (by simp))
  have HD13 := Lib.hid ((HD11.out.kept o12 (by simp)).kept o13 (by simp))
  have HO13 := Lib.hid ((HO11.out.trans o12 (by simp)).trans o13 (by simp))
  clear o12 I12 o13 hn13 HB11 HC11 HD11 HO11 HB10 HC10 HD10 HO10 HB9 HC9 HO9
  have q2 : ∀ w, (binOp .eql 31 (err 1) (err 1)).run Try.prog w = .ok (.bool true) w := fun w => by kernel_rfl
  have q1 := iface_nil
  go_simp
  repeat (first
    | (guard_target =~ wpList _ _ _ (List.cons (Oper.mk (some 15) _ _ _ _ _) _) _ _
       refine wpList_new_page rfl rfl ?_
       intro w14 g14 hb14 hg14 ho14
       have hneC : g14 ≠ g3 := by have := HB13.out.lt; omega
       have hneD : g14 ≠ g7 := by have := HC13.out.lt; omega
       have hneE : g14 ≠ g10 := by have := HD13.out.lt; omega
       have HB14 := Lib.hid (HB13.out.kept ho14 (by simp))
       have HC14 := Lib.hid (HC13.out.kept ho14 (by simp))
       have HD14 := Lib.hid (HD13.out.kept ho14 (by simp))
       have HE14 := Lib.hid hb14
       have HG14 := Lib.hid (Nat.le_trans HO13.out.size hg14)
       have HO14 := Lib.hid (HO13.out.trans ho14 (by simp))
       clear hb14 hg14 ho14)
    | (guard_target =~ wpList _ _ _ (List.cons (Oper.mk none (Op.store 27 (.tmp 15) _) _ _ _ _) _) _ _
       refine wpList_store_page rfl _ _ rfl g14 (0 :: blankP) (by rfl) (by rfl) (by rfl) _ HE14.out (by rfl) ?_
       intro w15 hb15 ho15
       have HB15 := Lib.hid (HB14.out.kept ho15 (by simp; omega))
       have HC15 := Lib.hid (HC14.out.kept ho15 (by simp; omega))
       have HD15 := Lib.hid (HD14.out.kept ho15 (by simp; omega))
       have HO15 := Lib.hid (HO14.out.trans ho15 (by simp; exact HG14.out))
       have hcell : w15.cell? ⟨g7, 1 + k, none⟩ = some (.int .i64 b) := HC15.out.cell (by rw [Nat.add_comm, List.getElem?_cons_succ, List.getElem?_set_self (by rw [HFL.out]; exact hk)])
       clear hb15 ho15)
    | (guard_target =~ Oper.wp _ (Oper.mk (some 74) _ _ _ _ _) _ _ _ _; refine wp_page_load (.tmp 13) rfl g10 (by rfl) (4 :: c) HD15.out HL1.out ?_; simp only [Act.put, List.setIfInBounds_toArray, List.set_cons_zero, List.set_cons_succ])
    | (guard_target =~ Oper.wp _ (Oper.mk (some 75) _ _ _ _ _) _ _ _ _; refine wp_page_load (.tmp 9) rfl g3 (by rfl) (4 :: c) HB15.out HL1.out ?_; simp only [Act.put, List.setIfInBounds_toArray, List.set_cons_zero, List.set_cons_succ])
    | (guard_target =~ Oper.wp _ (Oper.mk (some 76) _ _ _ _ _) _ _ _ _; refine wp_page_eqlr true (.tmp 74) (.tmp 75) rfl 4 4 c c (by rfl) (by rfl) HFL.out HFL.out (by simp) ?_; simp only [Act.put, List.setIfInBounds_toArray, List.set_cons_zero, List.set_cons_succ])
    | (guard_target =~ Oper.wp _ (Oper.mk (some 79) _ _ _ _ _) _ _ _ _; refine wp_page_load (.tmp 11) rfl g7 (by rfl) (4 :: c.set k b) HC15.out HL2.out ?_; simp only [Act.put, List.setIfInBounds_toArray, List.set_cons_zero, List.set_cons_succ])
    | (guard_target =~ Oper.wp _ (Oper.mk (some 80) _ _ _ _ _) _ _ _ _; refine wp_page_load (.tmp 9) rfl g3 (by rfl) (4 :: c) HB15.out HL1.out ?_; simp only [Act.put, List.setIfInBounds_toArray, List.set_cons_zero, List.set_cons_succ])
    | go_values | go_skip | go_guarded | go_step | go_upon)
  refine (Diff_any 4 4 (c.set k b) c w15 (by rw [List.length_set, HFL.out]) HFL.out).mono ?_
  rintro e w16 ⟨v16, rfl, h16, o16⟩
  obtain ⟨a16, c16, rfl⟩ := h16.shape
  have hle := dif_one c k b 60
  rw [if_pos hk] at hle
  have HO16 := Lib.hid (HO15.out.trans o16 (by simp))
  obtain ⟨m, hm⟩ : ∃ m, m = (dif (c.set k b) c 60).length := ⟨_, rfl⟩
  rw [← hm] at hle ⊢
  have hle' : (m : Int) ≤ 1 := by omega
  clear h16 o16 hm
  go_wp2
  go_ret
  exact ⟨rfl, HO16.out⟩

set_option maxRecDepth 100000 in
theorem plast_walk (v : Value) (at_ a b : Int) (l : List Int) (w : World) (hv : IntsV w v l) (_ : Fit v) (hl : l.length ≤ maxLen) (hat : (Lit.int .i64 at_).wf = true) (ha : (Lit.int .i64 a).wf = true) (hb : (Lit.int .i64 b).wf = true) :
    Calls Try.prog 8 #[.agg #[v, .int .i64 at_, .int .i64 a, .int .i64 b]] w fun e w' => e = .returned (.bool true) ∧ Only [] w w' := by
  have HV := Lib.hid hv
  have HL := Lib.hid hl
  have HT := Lib.hid hat
  have HA := Lib.hid ha
  have HB := Lib.hid hb
  obtain ⟨va, vc, rfl, -⟩ := id hv
  clear hv hl hat ha hb
  go_enter Try.func8, Try.ntmps8
  go_wp2_with fail
  have q1 : Only [] w (w.alloc (.cells #[.slice va l.length vc, .int .i64 at_, .int .i64 a, .int .i64 b] 56)) := (Only.refl [] w).alloc _
  refine (order_any _ at_ a b l _ (HV.out.kept q1 (by intro a n c e h; simp)) HL.out HT.out HA.out HB.out).mono ?_
  rintro e w2 ⟨rfl, o2⟩
  have HO := Lib.hid (q1.trans o2 (by simp))
  clear o2 q1
  go_wp2
  go_ret
  exact ⟨rfl, HO.out⟩

set_option maxRecDepth 100000 in
theorem plast_lifted (os : Os) (started : os.Started) (H : Type) (enc : TypeId × Value → H) :
    ReturnsInHanded {} Try.checked os 8 .any (Rows.pageLastSpec.pre6 enc Try.prog Try.f8 Rows.pageLastRow.domain false) (Rows.pageLastSpec.post enc Try.prog Try.f8 false true false false) := by
  refine returnsInHanded_of_change (C := Try.checked) law_own started (by kernel_rfl) Try.func8
    (ChangeSpec.witness6 (enc := enc) (C := Try.checked) false ⟨#[], #[.agg #[.slice none 0 0, .int .i64 0, .int .i64 0, .int .i64 0]], []⟩ 8 (by kernel_rfl) (by kernel_rfl) (by kernel_rfl) (by kernel_rfl)) ?_
  intro W base args ds gs before hval0 hW hcnd _
  have hval : ∀ (j : Nat) t v, Try.f8.params[j]? = some t → args[j]? = some v → Value.okWide Try.prog W .any base t v := hval0
  have hW' := hW
  obtain ⟨p, q, hA0, hV, rfl, hfz, hnd⟩ := hW
  have hA : DataW.TrodAll enc Try.prog W 0 (fun _ => true) true Try.f8.params.toList args.toList ds p := hA0
  rw [Try.params8] at hA hval
  obtain ⟨v0, vs0, d0, ds0, p0, q0, hargs, rfl, rfl, h0, r0⟩ := trodAll_cons hA
  obtain ⟨rfl, rfl, rfl⟩ := trodAll_nil r0
  obtain rfl : args = #[v0] := by cases args; simp_all
  obtain ⟨rfl, rfl⟩ := trodVars_none hV
  have h0' := h0
  obtain ⟨b0, l0, a0, x0, y0, rfl, hb0, hf0, hl0, wa0, wx0, wy0⟩ := open_ordered (hval 0 56 v0 rfl rfl) h0
  have hlt0 : ∀ x ∈ p0, x.block < W.heap.size := fun x hx => hW'.lt x (by simp [hx])
  clear hA0 hval0
  refine (plast_walk b0 a0 x0 y0 l0 W hb0 hf0 hl0 wa0 wx0 wy0).mono fun e W' ⟨he, hg⟩ => ?_
  subst he
  exact ⟨_, rfl, post_quiet (pa := (p0 ++ [])) (pv := []) hW' hg (fun _ _ _ => (trodAll_cons_mk (shut_bool Try.underlying4 _) trodAll_mk0)) (fun sp hsp => (trodAll_cons_mk (arg_stays (by kernel_rfl) (of_decide_eq_true (by kernel_rfl)) h0' hg hlt0 (fun x hx => hsp x (by simp [hx]))) trodAll_mk0)) (fun _ _ => rfl) (by simp) (ok_one (by kernel_rfl) rfl (okWide_bool_mk Try.underlying4 _))⟩

theorem plast_over : Rows.pageLastRow.holds Try.pinned (OpenSpec.ofChange Rows.pageLastSpec) :=
  OpenClaim.holds_of_wide 8 Try.f8 rfl rfl rfl rfl rfl rfl rfl ⟨rfl, rfl, rfl, rfl, rfl⟩ rfl rfl rfl rfl rfl (by kernel_rfl) Try.func8 (by kernel_rfl)
    (of_decide_eq_true (by kernel_rfl)) (by unfold Func.isWrapper; first | (rw [if_pos (by decide +kernel)]; kernel_rfl) | (rw [if_neg (by decide +kernel)]; exact ⟨rfl, rfl⟩))
    (fun os started H enc _ => plast_lifted os started H enc)

/-- The statement. -/
theorem plast_holds : Rows.PageLastSaid :=
  plast_over
#print axioms plast_holds
end Go.Proofs.Ythacfanfhdjmbaa
