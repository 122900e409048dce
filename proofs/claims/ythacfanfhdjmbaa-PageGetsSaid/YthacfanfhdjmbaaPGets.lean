/- PageGets, for every input: it returns true, and its arguments read behind the call as they did: which cells there are. No condition. -/
import Derived.Test.YthacfanfhdjmbaaPA
namespace Go.Proofs.Ythacfanfhdjmbaa
open Go.ChangeShapes Go.WideShapes Go.ChangeAt Go.RowKit Go.Deep Go.Maps
set_option linter.unusedSimpArgs false
set_option linter.unusedVariables false

set_option maxRecDepth 100000 in
set_option maxHeartbeats 1000000 in
theorem gets_walk (v : Value) (k : Int) (l : List Int) (w : World) (hv : IntsV w v l) (hl : l.length ≤ maxLen) (hk : (Lit.int .i64 k).wf = true) :
    Calls Try.prog 6 #[v, .int .i64 k] w fun e w' => e = .returned (.bool true) ∧ Only [] w w' := by
  have hl' : l.length ≤ 9223372036854775807 := by unfold maxLen at hl; omega
  have hkb := in64_wf hk
  obtain ⟨a, cap, rfl, -⟩ := id hv
  have HV := Lib.hid hv
  have hfl := filC_length l 60
  clear hv hk hl
  go_enter Try.func6, Try.ntmps6
  go_wp2_with fail
  refine (alive5_any _).mono ?_
  rintro e w1 ⟨rfl, o1⟩
  have HO1 := Lib.hid o1
  clear o1
  have T1 := trivial
  go_wp2_with fail
  refine (filled_any 9 _ l w1 (HV.out.kept HO1.out (by intro a n c e h; simp)) hl').mono ?_
  rintro e w2 ⟨rfl, o2⟩
  have HO2 := Lib.hid (HO1.out.trans o2 (by simp))
  clear o2
  clear hl'
  obtain ⟨c, hc⟩ : ∃ c, c = filC l 60 := ⟨_, rfl⟩
  rw [← hc] at hfl ⊢
  have HFL := Lib.hid hfl
  have HL1 : Hid ((9 :: c).length = 61) := Lib.hid (by rw [List.length_cons, hfl])
  clear hc hfl HV HO1
  go_wp2_with (first
    | (clear T1
       refine wpList_new_page rfl rfl ?_
       intro w3 g3 hb3 hg3 ho3
       have HB3 := Lib.hid hb3
       have HG3 := Lib.hid (Nat.le_trans HO2.out.size hg3)
       have HO3 := Lib.hid (HO2.out.trans ho3 (by simp))
       clear hb3 hg3 ho3)
    | (refine wpList_store_page rfl _ _ rfl g3 (9 :: c) (by rfl) (by rfl) HL1.out _ HB3.out (by rfl) ?_
       intro w4 hb4 ho4
       have HB4 := Lib.hid hb4
       have HO4 := Lib.hid (HO3.out.trans ho4 (by simp; exact HG3.out))
       clear hb4 ho4)
    | (refine wpList_load_page rfl _ rfl g3 (by rfl) (9 :: c) HB4.out HL1.out ?_))
  by_cases hin : 0 ≤ k ∧ k < 60
  · obtain ⟨i, rfl⟩ : ∃ i : Nat, k = (i : Int) := ⟨k.toNat, by omega⟩
    have hi : i < 60 := by omega
    obtain ⟨z, hz⟩ : ∃ z, c[i]? = some z := ⟨_, List.getElem?_eq_getElem (by rw [HFL.out]; exact hi)⟩
    refine (Get_yes 9 c i z w4 hi hz).mono ?_
    rintro e w5 ⟨rfl, o5⟩
    have hcell : w5.cell? ⟨g3, 1 + i, none⟩ = some (.int .i64 z) := (HB4.out.kept o5 (by simp)).cell (by rw [Nat.add_comm, List.getElem?_cons_succ]; exact hz)
    have HO5 := Lib.hid (HO4.out.trans o5 (by simp))
    clear o5 hz hin hkb
    go_wp2
    go_ret
    exact ⟨rfl, HO5.out⟩
  · refine (Get_no _ k w4 hkb.1 hkb.2 hin).mono ?_
    rintro e w5 ⟨rfl, o5⟩
    have HO5 := Lib.hid (HO4.out.trans o5 (by simp))
    clear o5
    by_cases hneg : k < 0
    · go_wp2
      go_ret
      exact ⟨rfl, HO5.out⟩
    · have hbig : 59 < k := by omega
      go_wp2
      go_ret
      exact ⟨rfl, HO5.out⟩

set_option maxRecDepth 100000 in
theorem gets_lifted (os : Os) (started : os.Started) (H : Type) (enc : TypeId × Value → H) :
    ReturnsInHanded {} Try.checked os 6 .any (Rows.pageGetsSpec.pre6 enc Try.prog Try.f6 Rows.pageGetsRow.domain false) (Rows.pageGetsSpec.post enc Try.prog Try.f6 false true false false) := by
  refine returnsInHanded_of_change (C := Try.checked) law_own started (by kernel_rfl) Try.func6
    (ChangeSpec.witness6 (enc := enc) (C := Try.checked) false ⟨#[], #[.slice none 0 0, .int .i64 0], []⟩ 8 (by kernel_rfl) (by kernel_rfl) (by kernel_rfl) (by kernel_rfl)) ?_
  intro W base args ds gs before hval0 hW hcnd _
  have hval : ∀ (j : Nat) t v, Try.f6.params[j]? = some t → args[j]? = some v → Value.okWide Try.prog W .any base t v := hval0
  have hW' := hW
  obtain ⟨p, q, hA0, hV, rfl, hfz, hnd⟩ := hW
  have hA : DataW.TrodAll enc Try.prog W 0 (fun _ => true) true Try.f6.params.toList args.toList ds p := hA0
  rw [Try.params6] at hA hval
  obtain ⟨v0, vs0, d0, ds0, p0, q0, hargs, rfl, rfl, h0, r0⟩ := trodAll_cons hA
  obtain ⟨v1, vs1, d1, ds1, p1, q1, rfl, rfl, rfl, h1, r1⟩ := trodAll_cons r0
  obtain ⟨rfl, rfl, rfl⟩ := trodAll_nil r1
  obtain rfl : args = #[v0, v1] := by cases args; simp_all
  obtain ⟨rfl, rfl⟩ := trodVars_none hV
  have h0' := h0
  obtain ⟨sa0, sl0, sc0, rfl⟩ := okWide_slice Try.underlying22 (hval 0 22 v0 rfl rfl)
  obtain ⟨fuel0, hf0⟩ := h0
  obtain ⟨l0, hs0, _, hl0⟩ := open_nums (v := .slice sa0 sl0 sc0) hf0
  have hlt0 : ∀ x ∈ p0, x.block < W.heap.size := fun x hx => hW'.lt x (by simp [hx])
  obtain ⟨a1, rfl, rfl, rfl, w1⟩ := open_int Try.underlying3 (hval 1 3 v1 rfl rfl) h1
  clear hA0 hval0
  refine (gets_walk _ a1 l0 W hs0 hl0 w1).mono fun e W' ⟨he, hg⟩ => ?_
  subst he
  exact ⟨_, rfl, post_quiet (pa := (p0 ++ ([] ++ []))) (pv := []) hW' hg (fun _ _ _ => (trodAll_cons_mk (shut_bool Try.underlying4 _) trodAll_mk0)) (fun sp hsp => (trodAll_cons_mk (arg_stays (by kernel_rfl) (of_decide_eq_true (by kernel_rfl)) h0' hg hlt0 (fun x hx => hsp x (by simp [hx]))) (trodAll_cons_mk (shut_int Try.underlying3 w1) trodAll_mk0))) (fun _ _ => rfl) (by simp) (ok_one (by kernel_rfl) rfl (okWide_bool_mk Try.underlying4 _))⟩

theorem gets_over : Rows.pageGetsRow.holds Try.pinned (OpenSpec.ofChange Rows.pageGetsSpec) :=
  OpenClaim.holds_of_wide 6 Try.f6 rfl rfl rfl rfl rfl rfl rfl ⟨rfl, rfl, rfl, rfl, rfl⟩ rfl rfl rfl rfl rfl (by kernel_rfl) Try.func6 (by kernel_rfl)
    (of_decide_eq_true (by kernel_rfl)) (by unfold Func.isWrapper; first | (rw [if_pos (by decide +kernel)]; kernel_rfl) | (rw [if_neg (by decide +kernel)]; exact ⟨rfl, rfl⟩))
    (fun os started H enc _ => gets_lifted os started H enc)

/-- The statement. -/
theorem gets_holds : Rows.PageGetsSaid :=
  gets_over
#print axioms gets_holds

end Go.Proofs.Ythacfanfhdjmbaa
