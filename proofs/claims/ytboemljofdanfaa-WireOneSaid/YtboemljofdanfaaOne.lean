/- WireOne, for every input: it returns true, and its arguments read behind the call as they did: a number that bytes begin with has, put again, the same bytes, and each number has one to ten bytes, one just from -64 to 63. No condition. -/
import Derived.Test.YtboemljofdanfaaLw
namespace Go.Proofs.Ytboemljofdanfaa
open Go.ChangeShapes Go.WideShapes Go.ChangeAt Go.RowKit Go.Deep Go.Maps
set_option linter.unusedSimpArgs false
set_option linter.unusedVariables false

theorem one_small (n : Int) : (decide (-64 ≤ n) && decide (n < 64)) = decide ((num n).length = 1) := by
  rw [Bool.eq_iff_iff]
  simp only [Bool.and_eq_true, decide_eq_true_eq]
  exact (turnN_small n).symm.trans (dig_one _).symm

set_option maxRecDepth 100000 in
set_option maxHeartbeats 1600000 in
theorem one_walk (v : Value) (n : Int) (l : Sec) (w : World) (hv : Bytes w v l) (hf : Fit v) (hl : l.length ≤ maxLen) (hn : (Lit.int .i64 n).wf = true) :
    Calls Try.prog 6 #[v, .int .i64 n] w fun e w' => e = .returned (.bool true) ∧ Only [] w w' := by
  have HV := Lib.hid hv
  have HFit := Lib.hid hf
  have hb : -9223372036854775808 ≤ n ∧ n ≤ 9223372036854775807 := by
    have e1 : IntKind.i64.min = -9223372036854775808 := by decide
    have e2 : IntKind.i64.max = 9223372036854775807 := by decide
    simpa [Lit.wf, e1, e2] using hn
  obtain ⟨hb0, hb1⟩ := hb
  have HN := Lib.hid hn
  have hlm : l.length ≤ 9223372036854775807 := by unfold maxLen at hl; omega
  obtain ⟨va, vc, rfl, -⟩ := id hv
  clear hv hf hl hn
  go_enter Try.func6, Try.ntmps6
  go_wp2_with fail
  refine (alive_any _).mono ?_
  rintro e w1 ⟨rfl, o1⟩
  go_wp2_with fail
  have HP := parts_arg1 (HV.out.kept o1 (clean_nil _)) rfl
  have HO1 := Lib.hid (o1.trans ((Only.refl [] w1).alloc (.cells #[.slice va l.length vc] 22)) (by simp))
  clear o1
  refine (large_any _ [l] _ HP (by simp) (by simp; omega)).mono ?_
  rintro e w2 ⟨rfl, rfl⟩
  clear HP
  generalize w1.alloc (.cells #[.slice va l.length vc] 22) = w2 at HO1 ⊢
  have ht : total [l] = l.length := by simp [total]
  rw [ht]
  clear ht
  by_cases hbig : 131072 < l.length
  · go_wp2_with fail
    go_ret
    exact ⟨rfl, HO1.out⟩
  · go_wp2_with fail
    have hp := Put_any (.slice none 0 0) [] _ [n] _ (bytes_nil _ _) (ints_one' w2 n rfl HN.out) (by simp) (by simp)
    have e1 : nums [n] = num n := by simp [nums]
    rw [e1] at hp
    refine hp.mono ?_
    have hten := num_ten hb0 hb1
    have hpos := num_pos n
    have hsm := one_small n
    generalize hnl : (num n).length = k at *
    rintro e w3 ⟨a3, c3, rfl, hw3, o3⟩
    have HO3 := Lib.hid ((HO1.out.trans ((Only.refl [] w2).alloc _) (by simp)).trans o3 (by simp))
    have HSM := Lib.hid hsm
    clear hp e1 hw3 o3 hnl hsm HO1
    rw [List.length_nil, Nat.zero_add]
    have k0 : (1 : Int) ≤ (k : Int) := by omega
    have k1 : (k : Int) ≤ 10 := by omega
    cases htk : takeN l with
    | none =>
      go_wp2_with fail
      refine (Take_none _ l w3 (HV.out.kept HO3.out (clean_nil _)) (by omega) htk).mono ?_
      rintro e w4 ⟨rfl, rfl⟩
      clear htk
      have q := iface_err 4
      go_wp2_with fail
      go_quiet (fail)
      have HO4 := Lib.hid (Only.mk HO3.out.os HO3.out.tape HO3.out.output HO3.out.size HO3.out.block : Only [] w (w3.drewN nq))
      generalize w3.drewN nq = w5 at HO4 ⊢
      have hc := HSM.out
      by_cases hs : -64 ≤ n ∧ n < 64
      · obtain ⟨h1, h2⟩ := hs
        have hk : ((k : Int) == 1) = true := by
          have hd : (decide (-64 ≤ n) && decide (n < 64)) = true := by simp [h1, h2]
          rw [hd] at hc
          have hc' : k = 1 := by simpa using hc.symm
          simp [hc']
        clear hc
        go_wp2
        go_ret
        exact ⟨rfl, HO4.out⟩
      · have hk : ((k : Int) == 1) = false := by
          have hd : (decide (-64 ≤ n) && decide (n < 64)) = false := by simp; omega
          rw [hd] at hc
          have hc' : ¬ k = 1 := by simpa using hc.symm
          simp
          omega
        by_cases h1 : -64 ≤ n
        · have h2 : ¬ n < 64 := by omega
          clear hc hs
          go_wp2
          go_ret
          exact ⟨rfl, HO4.out⟩
        · clear hc hs
          go_wp2
          go_ret
          exact ⟨rfl, HO4.out⟩
    | some p =>
      obtain ⟨x, j⟩ := p
      obtain ⟨hx1, hj, _, hx2, hx3⟩ := takeN_inv htk
      go_wp2_with fail
      refine (Take_some _ l w3 (HV.out.kept HO3.out (clean_nil _)) HFit.out (by omega) x j htk).mono ?_
      rintro e w4 ⟨a4, c4, rfl, hw4, o4⟩
      have e4 : (l.drop j).length = l.length - j := List.length_drop
      have hwx : (Lit.int .i64 x).wf = true := WalkArith.wf_i64 (by omega)
      have hsplit : num x ++ l.drop j = l := by rw [hx1, List.take_append_drop]
      have HO5 := Lib.hid (HO3.out.trans o4 (by simp))
      have HW := Lib.hid hw4.bytes
      have HX := Lib.hid hsplit
      have HWX := Lib.hid hwx
      have hxt := num_ten hx2 hx3
      obtain ⟨S1, hS1⟩ : ∃ S, S = strOf l := ⟨_, rfl⟩
      obtain ⟨S2, hS2⟩ : ∃ S, S = strOf (l.drop j) := ⟨_, rfl⟩
      have H1 := Lib.hid hS1
      have H2 := Lib.hid hS2
      generalize l.length - j = m at *
      have s1 := str_bytes ((HV.out.kept HO5.out (clean_nil _)).kept (Only.refl [] w4).drew (clean_nil _)) hS1
      have s2 := str_bytes (HW.out.kept (Only.refl [] w4).drew (clean_nil _)) hS2
      have q := iface_nil
      clear htk hx1 hj hw4 o4 e4 hwx hsplit hS1 hS2
      go_wp2_with fail
      refine wp_region_held_drew (S := fun w' => (convert 22 9 (.slice va l.length vc)).run Try.prog w' = .ok (.string S1) w' ∧ (convert 22 9 (.slice a4 m c4)).run Try.prog w' = .ok (.string S2) w') (by kernel_rfl) ⟨s1, s2⟩ (fun hH => ?_)
      refine take_list (i := 0) (v := ?_) rfl (by kernel_rfl) (by kernel_rfl) (by kernel_rfl) (fun _ _ _ h => h) (Or.inl ⟨by rfl, ?_⟩) hH ?_
      rotate_left
      · ((intro w hSw; (try dsimp only at hSw); go_simp); try with_reducible rfl)
      simp only [Act.put, List.setIfInBounds_toArray, List.set_cons_zero, List.set_cons_succ]
      refine take_list (i := 1) (v := ?_) rfl (by kernel_rfl) (by kernel_rfl) (by kernel_rfl) (fun _ _ _ h => h) (Or.inl ⟨by rfl, ?_⟩) hH ?_
      rotate_left
      · ((intro w hSw; (try dsimp only at hSw); go_simp); try with_reducible rfl)
      simp only [Act.put, List.setIfInBounds_toArray, List.set_cons_zero, List.set_cons_succ]
      refine take_list (i := 2) (v := ?_) rfl (by kernel_rfl) (by kernel_rfl) (by kernel_rfl) (fun _ _ _ h => h) (Or.inl ⟨by rfl, ?_⟩) hH ?_
      rotate_left
      · ((intro w hSw; (try dsimp only at hSw); go_simp); try with_reducible rfl)
      simp only [Act.put, List.setIfInBounds_toArray, List.set_cons_zero, List.set_cons_succ]
      refine take_list (i := 3) (v := ?_) rfl (by kernel_rfl) (by kernel_rfl) (by kernel_rfl) (fun _ _ _ h => h) (Or.inl ⟨by rfl, ?_⟩) hH ?_
      rotate_left
      · ((intro w hSw; (try dsimp only at hSw); go_simp); try with_reducible rfl)
      simp only [Act.put, List.setIfInBounds_toArray, List.set_cons_zero, List.set_cons_succ]
      refine take_list (i := 7) (v := ?_) rfl (by kernel_rfl) (by kernel_rfl) (by kernel_rfl) (fun _ _ _ h => h) (Or.inl ⟨by rfl, ?_⟩) hH ?_
      rotate_left
      · ((intro w hSw; (try dsimp only at hSw); go_simp); try with_reducible rfl)
      simp only [Act.put, List.setIfInBounds_toArray, List.set_cons_zero, List.set_cons_succ]
      refine take_list (i := 8) (v := ?_) rfl (by kernel_rfl) (by kernel_rfl) (by kernel_rfl) (fun _ _ _ h => h) (Or.inl ⟨by rfl, ?_⟩) hH ?_
      rotate_left
      · ((intro w hSw; (try dsimp only at hSw); go_simp); try with_reducible rfl)
      simp only [Act.put, List.setIfInBounds_toArray, List.set_cons_zero, List.set_cons_succ]
      refine take_list (i := 10) (v := ?_) rfl (by kernel_rfl) (by kernel_rfl) (by kernel_rfl) (fun _ _ _ h => h) (Or.inl ⟨by rfl, ?_⟩) hH ?_
      rotate_left
      · ((intro w hSw; (try dsimp only at hSw); go_simp); try with_reducible rfl)
      simp only [Act.put, List.setIfInBounds_toArray, List.set_cons_zero, List.set_cons_succ]
      refine take_list (i := 11) (v := ?_) rfl (by kernel_rfl) (by kernel_rfl) (by kernel_rfl) (fun _ _ _ h => h) (Or.inl ⟨by rfl, ?_⟩) hH ?_
      rotate_left
      · ((intro w hSw; (try dsimp only at hSw); go_simp); try with_reducible rfl)
      simp only [Act.put, List.setIfInBounds_toArray, List.set_cons_zero, List.set_cons_succ]
      refine wpAnyH_ready (rs := [4]) (by kernel_rfl) (by simp) ?_
      refine ready_list rfl (fun K hK => ?_)
      go_simp
      have q5 : Only [] w4 ((w4.alloc (.cells #[.int .i64 x] 3)).drew) := ((Only.refl [] w4).alloc _).drew
      have t1 := str_bytes ((HV.out.kept HO5.out (clean_nil _)).kept q5 (clean_nil _)) H1.out
      have t2 := str_bytes (HW.out.kept q5 (clean_nil _)) H2.out
      have HO6 := Lib.hid (HO5.out.trans q5 (by simp))
      have HW6 := Lib.hid (HW.out.kept q5 (clean_nil _))
      refine hK.out _ _ ⟨t1, t2⟩ (fun hH => ?_)
      clear hK K s1 s2 t1 t2 HO5 HW
      refine wpAnyH_ready (rs := [5]) (by kernel_rfl) (by simp) ?_
      refine ready_list rfl (fun K hK => ?_)
      go_simp
      have hp := Put_any (.slice none 0 0) [] (.slice (some ⟨w4.heap.size, 0, none⟩) 1 1) [x] ((w4.alloc (.cells #[.int .i64 x] 3)).drew) (bytes_nil _ _) ((ints_one' w4 x rfl HWX.out).kept ((Only.refl [] _).drew) (fun _ _ _ _ _ => by simp)) (by simp) (by simp)
      have e1 : nums [x] = num x := by simp [nums]
      rw [e1, List.length_nil, Nat.zero_add] at hp
      refine hp.mono ?_
      rintro e w6 ⟨a6, c6, rfl, hw6, o6⟩
      obtain ⟨S3, hS3⟩ : ∃ S, S = strOf (num x) := ⟨_, rfl⟩
      have s1 := str_bytes (HV.out.kept (HO6.out.trans o6 (by simp)) (clean_nil _)) H1.out
      have s2 := str_bytes (HW6.out.kept o6 (clean_nil _)) H2.out
      have s3 := str_bytes hw6.bytes hS3
      have hadd := str_add HX.out (by omega) hS3 H2.out H1.out
      have HO7 := Lib.hid (HO6.out.trans o6 (by simp))
      clear hp e1 hw6 o6 hS3 q5 HO6 HW6
      refine hK.out _ _ ⟨s1, s2⟩ (fun hH => ?_)
      clear hK K
      refine wpAnyH_ready (rs := [6]) (by kernel_rfl) (by simp) ?_
      refine ready_list rfl (fun K hK => ?_)
      go_simp
      refine hK.out _ _ hH (fun hH => ?_)
      clear hK K s3
      refine take_list (i := 9) (v := ?_) rfl (by kernel_rfl) (by kernel_rfl) (by kernel_rfl) (fun _ _ _ h => h) (Or.inl ⟨by rfl, ?_⟩) hH ?_
      rotate_left
      · ((intro w hSw; (try dsimp only at hSw); go_simp); try with_reducible rfl)
      simp only [Act.put, List.setIfInBounds_toArray, List.set_cons_zero, List.set_cons_succ]
      refine take_list (i := 12) (v := ?_) rfl (by kernel_rfl) (by kernel_rfl) (by kernel_rfl) (fun _ _ _ h => h) (Or.inl ⟨by rfl, ?_⟩) hH ?_
      rotate_left
      · ((intro w hSw; (try dsimp only at hSw); go_simp); try with_reducible rfl)
      simp only [Act.put, List.setIfInBounds_toArray, List.set_cons_zero, List.set_cons_succ]
      refine take_list (i := 13) (v := ?_) rfl (by kernel_rfl) (by kernel_rfl) (by kernel_rfl) (fun _ _ _ h => h) (Or.inl ⟨by rfl, ?_⟩) hH ?_
      rotate_left
      · ((intro w hSw; (try dsimp only at hSw); go_simp); try with_reducible rfl)
      simp only [Act.put, List.setIfInBounds_toArray, List.set_cons_zero, List.set_cons_succ]
      refine wpAnyH_done (by kernel_rfl) ?_ _
      clear hadd s1 s2 q hH
      have HO4 := HO7
      have hc := HSM.out
      by_cases hs : -64 ≤ n ∧ n < 64
      · obtain ⟨h1, h2⟩ := hs
        have hk : ((k : Int) == 1) = true := by
          have hd : (decide (-64 ≤ n) && decide (n < 64)) = true := by simp [h1, h2]
          rw [hd] at hc
          have hc' : k = 1 := by simpa using hc.symm
          simp [hc']
        clear hc
        go_wp2
        go_ret
        exact ⟨rfl, HO4.out⟩
      · have hk : ((k : Int) == 1) = false := by
          have hd : (decide (-64 ≤ n) && decide (n < 64)) = false := by simp; omega
          rw [hd] at hc
          have hc' : ¬ k = 1 := by simpa using hc.symm
          simp
          omega
        by_cases h1 : -64 ≤ n
        · have h2 : ¬ n < 64 := by omega
          clear hc hs
          go_wp2
          go_ret
          exact ⟨rfl, HO4.out⟩
        · clear hc hs
          go_wp2
          go_ret
          exact ⟨rfl, HO4.out⟩

set_option maxRecDepth 100000 in
theorem one_lifted (os : Os) (started : os.Started) (H : Type) (enc : TypeId × Value → H) :
    ReturnsInHanded {} Try.checked os 6 .any (Rows.wireOneSpec.pre6 enc Try.prog Try.f6 Rows.wireOneRow.domain false) (Rows.wireOneSpec.post enc Try.prog Try.f6 false true false false) := by
  refine returnsInHanded_of_change (C := Try.checked) law_own started (by kernel_rfl) Try.func6
    (ChangeSpec.witness6 (enc := enc) (C := Try.checked) false ⟨#[], #[.slice none 0 0, .int .i64 0], []⟩ 8 (by kernel_rfl) (by kernel_rfl) (by kernel_rfl) (by kernel_rfl)) ?_
  intro W base args ds gs before hval0 hW hcnd _
  have hval : ∀ (j : Nat) t v, Try.f6.params[j]? = some t → args[j]? = some v → Value.okWide Try.prog W .any base t v := hval0
  have hW' := hW
  obtain ⟨p, q, hA0, hV, rfl, hfz, hnd⟩ := hW
  have hA : DataW.TrodAll enc Try.prog W 0 (fun _ => true) true Try.f6.params.toList args.toList ds p := hA0
  rw [Try.params6] at hA hval
  obtain ⟨v0, vs0, d0, ds0, p0, q0, hargs, rfl, rfl, h0, r0⟩ := trodAll_cons hA
  obtain ⟨v1, vs1, d1, ds1, p1, q1, rfl, rfl, rfl, h1, r1⟩ := trodAll_cons r0
  obtain ⟨rfl, rfl, rfl⟩ := trodAll_nil r1
  obtain rfl : args = #[v0, v1] := by cases args; simp_all
  obtain ⟨rfl, rfl⟩ := trodVars_none hV
  have h0' := h0
  obtain ⟨sa0, sl0, sc0, rfl⟩ := okWide_slice Try.underlying22 (hval 0 22 v0 rfl rfl)
  obtain ⟨fuel0, hf0⟩ := h0
  obtain ⟨l0, hs0, hfit0, hl0⟩ := open_bytes (v := .slice sa0 sl0 sc0) hf0
  have hlt0 : ∀ x ∈ p0, x.block < W.heap.size := fun x hx => hW'.lt x (by simp [hx])
  obtain ⟨a1, rfl, rfl, rfl, w1⟩ := open_int Try.underlying3 (hval 1 3 v1 rfl rfl) h1
  clear hA0 hval0
  refine (one_walk _ a1 l0 W hs0 hfit0 hl0 w1).mono fun e W' ⟨he, hg⟩ => ?_
  subst he
  exact ⟨_, rfl, post_quiet (pa := (p0 ++ ([] ++ []))) (pv := []) hW' hg (fun _ _ _ => (trodAll_cons_mk (shut_bool Try.underlying4 _) trodAll_mk0)) (fun sp hsp => (trodAll_cons_mk (arg_stays (by kernel_rfl) (of_decide_eq_true (by kernel_rfl)) h0' hg hlt0 (fun x hx => hsp x (by simp [hx]))) (trodAll_cons_mk (shut_int Try.underlying3 w1) trodAll_mk0))) (fun _ _ => rfl) (by simp) (ok_one (by kernel_rfl) rfl (okWide_bool_mk Try.underlying4 _))⟩

theorem one_over : Rows.wireOneRow.holds Try.pinned (OpenSpec.ofChange Rows.wireOneSpec) :=
  OpenClaim.holds_of_wide 6 Try.f6 rfl rfl rfl rfl rfl rfl rfl ⟨rfl, rfl, rfl, rfl, rfl⟩ rfl rfl rfl rfl rfl (by kernel_rfl) Try.func6 (by kernel_rfl)
    (of_decide_eq_true (by kernel_rfl)) (by unfold Func.isWrapper; first | (rw [if_pos (by decide +kernel)]; kernel_rfl) | (rw [if_neg (by decide +kernel)]; exact ⟨rfl, rfl⟩))
    (fun os started H enc _ => one_lifted os started H enc)

/-- The statement. -/
theorem one_holds : Rows.WireOneSaid :=
  one_over
#print axioms one_holds
end Go.Proofs.Ytboemljofdanfaa
