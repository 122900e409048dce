/- PageBack, for every input: it returns true, and its arguments read behind the call as they did: pages come back from their sectors, and sectors have one form but for bytes 0. No condition. -/
import Derived.Test.YthacfanfhdjmbaaPBk1
namespace Go.Proofs.Ythacfanfhdjmbaa
open Go.ChangeShapes Go.WideShapes Go.ChangeAt Go.RowKit Go.Deep Go.Maps
set_option linter.unusedSimpArgs false
set_option linter.unusedVariables false

set_option maxRecDepth 100000 in
set_option maxHeartbeats 4000000 in
theorem pback_walk (lsn : Int) (va vb : Value) (l : List Int) (b : Sec) (w : World) (hs : (Lit.int .i64 lsn).wf = true) (hva : IntsV w va l) (hl : l.length ≤ maxLen) (hvb : Bytes w vb b) (hfb : Fit vb) (hbl : b.length ≤ maxLen) :
    Calls Try.prog 4 #[.int .i64 lsn, va, vb] w fun e w' => e = .returned (.bool true) ∧ Only [] w w' := by
  have hl' : l.length ≤ 9223372036854775807 := by unfold maxLen at hl; omega
  have hbl' : b.length ≤ 9223372036854775807 := by unfold maxLen at hbl; omega
  have hp : PForm lsn (filC l 60) := ⟨in64_wf hs, filC_length l 60, filC_in (ints_in hva) 60⟩
  obtain ⟨a0, a1, rfl, -⟩ := id hva
  obtain ⟨b0, b1, rfl, -⟩ := id hvb
  have VA := Lib.hid hva
  have VB := Lib.hid hvb
  have VF := Lib.hid hfb
  have HP := Lib.hid hp
  clear hva hvb hfb hs hl hbl hp
  go_enter Try.func4, Try.ntmps4
  go_wp2_with fail
  refine (alive5_any _).mono ?_
  rintro e w1 ⟨rfl, o1⟩
  have HO1 := Lib.hid o1
  clear o1
  by_cases hbig : 16384 < b.length
  · have hbig' : (16384 : Int) < (b.length : Int) := by omega
    go_wp2
    go_ret
    exact ⟨rfl, HO1.out⟩
  have hsm' : ¬ (16384 : Int) < (b.length : Int) := by omega
  have HSM := Lib.hid hbig
  clear hbig
  go_wp2_with fail
  refine (filled_any lsn _ l w1 (VA.out.kept HO1.out (by intro a n c e h; simp)) hl').mono ?_
  rintro e w2 ⟨rfl, o2⟩
  have HO2 := Lib.hid (HO1.out.trans o2 (by simp))
  clear o2 hl' HO1 VA
  obtain ⟨c, hc⟩ : ∃ c, c = filC l 60 := ⟨_, rfl⟩
  rw [← hc] at HP ⊢
  clear hc
  have HL : Hid ((lsn :: c).length = 61) := Lib.hid (by rw [List.length_cons, HP.out.len])
  go_wp2_with (first
    | (refine wpList_new_page rfl rfl ?_
       intro w3 g3 hb3 hg3 ho3
       have HB3 := Lib.hid hb3
       have HG3 := Lib.hid (Nat.le_trans HO2.out.size hg3)
       have HO3 := Lib.hid (HO2.out.trans ho3 (by simp))
       clear hb3 hg3 ho3)
    | (refine wpList_store_page rfl _ _ rfl g3 (lsn :: c) (by rfl) (by rfl) HL.out _ HB3.out (by rfl) ?_
       intro w4 hb4 ho4
       have HB4 := Lib.hid hb4
       have HO4 := Lib.hid (HO3.out.trans ho4 (by simp; exact HG3.out))
       clear hb4 ho4))
  simp only [Act.put, List.setIfInBounds_toArray, List.set_cons_zero, List.set_cons_succ]
  have ho5 : Only [] w4 w4.drew := (Only.refl [] w4).drew
  have HO5 := Lib.hid (HO4.out.trans ho5 (by simp))
  have hb5 := HB4.out.kept ho5 (by simp)
  refine wp_region_held_drew (S := fun w' => PB w' g3 27 (lsn :: c)) (by kernel_rfl) hb5 (fun hH => ?_)
  clear hb5 ho5 HB3 HO3 HB4 HO4 HO2
  generalize w4.drew = w5 at HO5 hH ⊢
  have HB5 := Lib.hid hH
  refine take_list (i := 0) (v := .agg (ivA (lsn :: c))) rfl (by kernel_rfl) (by kernel_rfl) (by kernel_rfl) (fun _ _ _ h => h) (Or.inl ⟨by rfl, ?_⟩) hH ?_
  · intro w hw
    have h1 := hw
    simp [execOp, Act.eval, Instr.loadAt, Instr.sureAddr, load_page h1 HL.out, Result.andThen]
  simp only [Act.put, List.setIfInBounds_toArray, List.set_cons_zero, List.set_cons_succ]
  refine take_list (i := 2) (v := .agg (ivA (lsn :: c))) rfl (by kernel_rfl) (by kernel_rfl) (by kernel_rfl) (fun _ _ _ h => h) (Or.inl ⟨by rfl, ?_⟩) hH ?_
  · intro w hw
    have h1 := hw
    simp [execOp, Act.eval, Instr.loadAt, Instr.sureAddr, load_page h1 HL.out, Result.andThen]
  simp only [Act.put, List.setIfInBounds_toArray, List.set_cons_zero, List.set_cons_succ]
  refine wpAnyH_ready (rs := [1]) (by kernel_rfl) (by simp) ?_
  refine ready_list rfl (fun K hK => ?_)
  go_simp
  refine (Encode_any lsn c w5 HP.out).mono ?_
  rintro e w6 ⟨gx, rfl, hx6, hgx, o6⟩
  have HX6 := Lib.hid hx6
  have HGX := Lib.hid (Nat.le_trans HO5.out.size hgx)
  have HO6 := Lib.hid (HO5.out.trans o6 (by simp))
  have HB6 := Lib.hid (HB5.out.kept o6 (by simp))
  have hne1 : gx ≠ g3 := by have := HB5.out.lt; omega
  clear hH hx6 hgx o6 HB5 HO5
  refine hK.out _ _ HB6.out (fun hH => ?_)
  clear hK K
  refine wpAnyH_ready (rs := [3]) (by kernel_rfl) (by simp) ?_
  refine ready_list rfl (fun K hK => ?_)
  go_simp
  refine (Encode_any lsn c w6 HP.out).mono ?_
  rintro e w7 ⟨gy, rfl, hy7, hgy, o7⟩
  have HY7 := Lib.hid hy7
  have HX7 := Lib.hid (HX6.out.kept o7 (by simp))
  have HGY := Lib.hid (Nat.le_trans HO6.out.size hgy)
  have HO7 := Lib.hid (HO6.out.trans o7 (by simp))
  have HB7 := Lib.hid (HB6.out.kept o7 (by simp))
  have hne2 : gx ≠ gy := by have := HX6.out.lt; omega
  have hne3 : gy ≠ g3 := by have := HB6.out.lt; omega
  clear hH hy7 hgy o7 HB6 HO6 HX6
  refine hK.out _ _ HB7.out (fun hH => ?_)
  clear hK K
  refine take_list (i := 4) (v := ?_) rfl (by kernel_rfl) (by kernel_rfl) (by kernel_rfl) (fun _ _ _ h => h) (Or.inl ⟨by rfl, ?_⟩) hH ?_
  rotate_left
  · ((intro w hSw; (try dsimp only at hSw); go_simp); try with_reducible rfl)
  simp only [Act.put, List.setIfInBounds_toArray, List.set_cons_zero, List.set_cons_succ]
  refine take_list (i := 5) (v := ?_) rfl (by kernel_rfl) (by kernel_rfl) (by kernel_rfl) (fun _ _ _ h => h) (Or.inl ⟨by rfl, ?_⟩) hH ?_
  rotate_left
  · ((intro w hSw; (try dsimp only at hSw); go_simp); try with_reducible rfl)
  simp only [Act.put, List.setIfInBounds_toArray, List.set_cons_zero, List.set_cons_succ]
  refine wpAnyH_done (by kernel_rfl) ?_ _
  clear hH
  have hpl := penc_length HP.out
  go_wp2_with fail
  have hby := HX7.out.bytes 512
  rw [hpl] at hby
  refine (Decode_any _ (penc lsn c) w7 hby (fun a n c e => by cases e; unfold maxLen; omega) (by rw [hpl]; decide)).mono ?_
  rintro e w8 ⟨o8, hs8, -⟩
  obtain rfl := hs8 lsn c (pdec_enc HP.out)
  have HX8 := Lib.hid (HX7.out.kept o8 (by simp))
  have HY8 := Lib.hid (HY7.out.kept o8 (by simp))
  have HB8 := Lib.hid (HB7.out.kept o8 (by simp))
  have HO8 := Lib.hid (HO7.out.trans o8 (by simp))
  clear hby o8 hs8 HX7 HY7 HB7 HO7
  have q1 := iface_ne
  go_simp
  repeat (first
    | (guard_target =~ wpList _ _ _ (List.cons (Oper.mk (some 10) _ _ _ _ _) _) _ _
       refine wpList_new_page rfl rfl ?_
       intro w9 g9 hb9 hg9 ho9
       have hneA : g9 ≠ g3 := by have := HB8.out.lt; omega
       have hneB : g9 ≠ gx := by have := HX8.out.lt; omega
       have hneC : g9 ≠ gy := by have := HY8.out.lt; omega
       have HX9 := Lib.hid (HX8.out.kept ho9 (by simp))
       have HY9 := Lib.hid (HY8.out.kept ho9 (by simp))
       have HB9 := Lib.hid (HB8.out.kept ho9 (by simp))
       have HD9 := Lib.hid hb9
       have HG9 := Lib.hid (Nat.le_trans HO8.out.size hg9)
       have HO9 := Lib.hid (HO8.out.trans ho9 (by simp))
       clear hb9 hg9 ho9)
    | (guard_target =~ wpList _ _ _ (List.cons (Oper.mk none (Op.store 27 (.tmp 10) (.tmp 27)) _ _ _ _) _) _ _
       refine wpList_store_page rfl _ _ rfl g9 (lsn :: c) (by rfl) (by rfl) HL.out _ HD9.out (by rfl) ?_
       intro w10 hb10 ho10
       have HX10 := Lib.hid (HX9.out.kept ho10 (by simp; omega))
       have HY10 := Lib.hid (HY9.out.kept ho10 (by simp; omega))
       have HB10 := Lib.hid (HB9.out.kept ho10 (by simp; omega))
       have HD10 := Lib.hid hb10
       have HO10 := Lib.hid (HO9.out.trans ho10 (by simp; exact HG9.out))
       clear hb10 ho10)
    | (guard_target =~ Oper.wp _ (Oper.mk (some 32) _ _ _ _ _) _ _ _ _; refine wp_page_load (.tmp 10) rfl g9 (by rfl) (lsn :: c) HD10.out HL.out ?_; simp only [Act.put, List.setIfInBounds_toArray, List.set_cons_zero, List.set_cons_succ])
    | (guard_target =~ Oper.wp _ (Oper.mk (some 33) _ _ _ _ _) _ _ _ _; refine wp_page_load (.tmp 7) rfl g3 (by rfl) (lsn :: c) HB10.out HL.out ?_; simp only [Act.put, List.setIfInBounds_toArray, List.set_cons_zero, List.set_cons_succ])
    | (guard_target =~ Oper.wp _ (Oper.mk (some 34) _ _ _ _ _) _ _ _ _; refine wp_page_neqr false (.tmp 32) (.tmp 33) rfl lsn lsn c c (by rfl) (by rfl) HP.out.len HP.out.len (by simp) ?_; simp only [Act.put, List.setIfInBounds_toArray, List.set_cons_zero, List.set_cons_succ])
    | go_values | go_skip | go_guarded | go_step | go_upon)
  have rx := HX10.out.row (by rw [hpl]; unfold maxLen; omega)
  have ry := HY10.out.row (by rw [hpl]; unfold maxLen; omega)
  rw [hpl] at rx ry
  refine (apart_two rx ry hne2 (by omega) (by omega) rfl).mono ?_
  rintro e w11 ⟨rfl, o11⟩
  have hgx : w.heap.size ≤ gx := HGX.out
  have hgy : w.heap.size ≤ gy := HGY.out
  have HD11 := Lib.hid (HD10.out.kept o11 (by simp; omega))
  have HO11 := Lib.hid (HO10.out.trans o11 (by simp; omega))
  clear rx ry o11 HX10 HY10 HB10 HD10 HO10 HX9 HY9 HB9 HD9 HO9 HX8 HY8 HB8 HO8 hgx hgy
  go_wp2_with fail
  have VB11 := VB.out.kept HO11.out (clean_nil _)
  have hb14 : b.length ≤ 17592186044416 := by have := HSM.out; omega
  refine (Decode_any _ b w11 VB11 VF.out hb14).mono ?_
  rintro e w12 ⟨o12, hs12, hn12⟩
  have HD12 := Lib.hid (HD11.out.kept o12 (by simp))
  have HO12 := Lib.hid (HO11.out.trans o12 (by simp))
  clear o12 VB11 HD11 HO11
  have hg9 : w.heap.size ≤ g9 := HG9.out
  cases hd : pdec b with
  | none =>
    obtain rfl := hn12 hd
    have q2 := iface_nerr
    clear hs12 hn12 hd
    go_wp2_with (
      refine wpList_store_page rfl _ _ rfl g9 (0 :: blankP) (by rfl) (by rfl) (by rfl) _ HD12.out HL.out ?_
      intro w13 hb13 ho13
      have HD13 := Lib.hid hb13
      have HO13 := Lib.hid (HO12.out.trans ho13 (by simp; exact hg9))
      clear hb13 ho13)
    have ho14 : Only [] w13 w13.drew := (Only.refl [] w13).drew
    refine wp_region_held_drew (S := fun w' => True) (by kernel_rfl) trivial (fun hH => ?_)
    refine take_list (i := 0) (v := ?_) rfl (by kernel_rfl) (by kernel_rfl) (by kernel_rfl) (fun _ _ _ h => h) (Or.inl ⟨by rfl, ?_⟩) hH ?_
    rotate_left
    · ((intro w hSw; (try dsimp only at hSw); go_simp); try with_reducible rfl)
    simp only [Act.put, List.setIfInBounds_toArray, List.set_cons_zero, List.set_cons_succ]
    refine take_list (i := 1) (v := ?_) rfl (by kernel_rfl) (by kernel_rfl) (by kernel_rfl) (fun _ _ _ h => h) (Or.inl ⟨by rfl, ?_⟩) hH ?_
    rotate_left
    · ((intro w hSw; (try dsimp only at hSw); go_simp); try with_reducible rfl)
    simp only [Act.put, List.setIfInBounds_toArray, List.set_cons_zero, List.set_cons_succ]
    refine take_list (i := 2) (v := ?_) rfl (by kernel_rfl) (by kernel_rfl) (by kernel_rfl) (fun _ _ _ h => h) (Or.inl ⟨by rfl, ?_⟩) hH ?_
    rotate_left
    · ((intro w hSw; (try dsimp only at hSw); go_simp); try with_reducible rfl)
    simp only [Act.put, List.setIfInBounds_toArray, List.set_cons_zero, List.set_cons_succ]
    refine take_list (i := 3) (v := undef) rfl (by kernel_rfl) (by kernel_rfl) (by kernel_rfl) (fun _ _ _ h => h) (Or.inr ⟨by rfl, rfl⟩) hH ?_
    simp only [Act.put, List.setIfInBounds_toArray, List.set_cons_zero, List.set_cons_succ]
    refine take_list (i := 4) (v := undef) rfl (by kernel_rfl) (by kernel_rfl) (by kernel_rfl) (fun _ _ _ h => h) (Or.inr ⟨by rfl, rfl⟩) hH ?_
    simp only [Act.put, List.setIfInBounds_toArray, List.set_cons_zero, List.set_cons_succ]
    refine take_list (i := 5) (v := undef) rfl (by kernel_rfl) (by kernel_rfl) (by kernel_rfl) (fun _ _ _ h => h) (Or.inr ⟨by rfl, rfl⟩) hH ?_
    simp only [Act.put, List.setIfInBounds_toArray, List.set_cons_zero, List.set_cons_succ]
    refine take_list (i := 6) (v := undef) rfl (by kernel_rfl) (by kernel_rfl) (by kernel_rfl) (fun _ _ _ h => h) (Or.inr ⟨by rfl, rfl⟩) hH ?_
    simp only [Act.put, List.setIfInBounds_toArray, List.set_cons_zero, List.set_cons_succ]
    refine take_list (i := 7) (v := undef) rfl (by kernel_rfl) (by kernel_rfl) (by kernel_rfl) (fun _ _ _ h => h) (Or.inr ⟨by rfl, rfl⟩) hH ?_
    simp only [Act.put, List.setIfInBounds_toArray, List.set_cons_zero, List.set_cons_succ]
    refine take_list (i := 8) (v := undef) rfl (by kernel_rfl) (by kernel_rfl) (by kernel_rfl) (fun _ _ _ h => h) (Or.inr ⟨by rfl, rfl⟩) hH ?_
    simp only [Act.put, List.setIfInBounds_toArray, List.set_cons_zero, List.set_cons_succ]
    refine take_list (i := 9) (v := ?_) rfl (by kernel_rfl) (by kernel_rfl) (by kernel_rfl) (fun _ _ _ h => h) (Or.inl ⟨by rfl, ?_⟩) hH ?_
    rotate_left
    · ((intro w hSw; (try dsimp only at hSw); go_simp); try with_reducible rfl)
    simp only [Act.put, List.setIfInBounds_toArray, List.set_cons_zero, List.set_cons_succ]
    refine take_list (i := 10) (v := ?_) rfl (by kernel_rfl) (by kernel_rfl) (by kernel_rfl) (fun _ _ _ h => h) (Or.inl ⟨by rfl, ?_⟩) hH ?_
    rotate_left
    · ((intro w hSw; (try dsimp only at hSw); go_simp); try with_reducible rfl)
    simp only [Act.put, List.setIfInBounds_toArray, List.set_cons_zero, List.set_cons_succ]
    refine take_list (i := 11) (v := undef) rfl (by kernel_rfl) (by kernel_rfl) (by kernel_rfl) (fun _ _ _ h => h) (Or.inr ⟨by rfl, rfl⟩) hH ?_
    simp only [Act.put, List.setIfInBounds_toArray, List.set_cons_zero, List.set_cons_succ]
    refine take_list (i := 12) (v := undef) rfl (by kernel_rfl) (by kernel_rfl) (by kernel_rfl) (fun _ _ _ h => h) (Or.inr ⟨by rfl, rfl⟩) hH ?_
    simp only [Act.put, List.setIfInBounds_toArray, List.set_cons_zero, List.set_cons_succ]
    refine take_list (i := 13) (v := undef) rfl (by kernel_rfl) (by kernel_rfl) (by kernel_rfl) (fun _ _ _ h => h) (Or.inr ⟨by rfl, rfl⟩) hH ?_
    simp only [Act.put, List.setIfInBounds_toArray, List.set_cons_zero, List.set_cons_succ]
    refine take_list (i := 14) (v := undef) rfl (by kernel_rfl) (by kernel_rfl) (by kernel_rfl) (fun _ _ _ h => h) (Or.inr ⟨by rfl, rfl⟩) hH ?_
    simp only [Act.put, List.setIfInBounds_toArray, List.set_cons_zero, List.set_cons_succ]
    refine take_list (i := 15) (v := undef) rfl (by kernel_rfl) (by kernel_rfl) (by kernel_rfl) (fun _ _ _ h => h) (Or.inr ⟨by rfl, rfl⟩) hH ?_
    simp only [Act.put, List.setIfInBounds_toArray, List.set_cons_zero, List.set_cons_succ]
    refine take_list (i := 16) (v := undef) rfl (by kernel_rfl) (by kernel_rfl) (by kernel_rfl) (fun _ _ _ h => h) (Or.inr ⟨by rfl, rfl⟩) hH ?_
    simp only [Act.put, List.setIfInBounds_toArray, List.set_cons_zero, List.set_cons_succ]
    refine take_list (i := 17) (v := undef) rfl (by kernel_rfl) (by kernel_rfl) (by kernel_rfl) (fun _ _ _ h => h) (Or.inr ⟨by rfl, rfl⟩) hH ?_
    simp only [Act.put, List.setIfInBounds_toArray, List.set_cons_zero, List.set_cons_succ]
    refine take_list (i := 18) (v := undef) rfl (by kernel_rfl) (by kernel_rfl) (by kernel_rfl) (fun _ _ _ h => h) (Or.inr ⟨by rfl, rfl⟩) hH ?_
    simp only [Act.put, List.setIfInBounds_toArray, List.set_cons_zero, List.set_cons_succ]
    refine take_list (i := 19) (v := undef) rfl (by kernel_rfl) (by kernel_rfl) (by kernel_rfl) (fun _ _ _ h => h) (Or.inr ⟨by rfl, rfl⟩) hH ?_
    simp only [Act.put, List.setIfInBounds_toArray, List.set_cons_zero, List.set_cons_succ]
    refine take_list (i := 20) (v := undef) rfl (by kernel_rfl) (by kernel_rfl) (by kernel_rfl) (fun _ _ _ h => h) (Or.inr ⟨by rfl, rfl⟩) hH ?_
    simp only [Act.put, List.setIfInBounds_toArray, List.set_cons_zero, List.set_cons_succ]
    refine take_list (i := 21) (v := ?_) rfl (by kernel_rfl) (by kernel_rfl) (by kernel_rfl) (fun _ _ _ h => h) (Or.inl ⟨by rfl, ?_⟩) hH ?_
    rotate_left
    · ((intro w hSw; (try dsimp only at hSw); go_simp); try with_reducible rfl)
    simp only [Act.put, List.setIfInBounds_toArray, List.set_cons_zero, List.set_cons_succ]
    refine take_list (i := 22) (v := ?_) rfl (by kernel_rfl) (by kernel_rfl) (by kernel_rfl) (fun _ _ _ h => h) (Or.inl ⟨by rfl, ?_⟩) hH ?_
    rotate_left
    · ((intro w hSw; (try dsimp only at hSw); go_simp); try with_reducible rfl)
    simp only [Act.put, List.setIfInBounds_toArray, List.set_cons_zero, List.set_cons_succ]
    refine wpAnyH_done (by kernel_rfl) ?_ _
    go_wp2
    go_ret
    exact ⟨rfl, HO13.out.trans ho14 (by simp)⟩
  | some nc =>
    obtain ⟨n', c'⟩ := nc
    obtain rfl := hs12 n' c' hd
    obtain ⟨hp', -, hcases⟩ := pdec_inv hd
    have HP' := Lib.hid hp'
    have HL' : Hid ((n' :: c').length = 61) := Lib.hid (by rw [List.length_cons, hp'.len])
    clear hs12 hn12 hd hp'
    go_wp2_with (
      refine wpList_store_page rfl _ _ rfl g9 (n' :: c') (by rfl) (by rfl) HL'.out _ HD12.out HL.out ?_
      intro w13 hb13 ho13
      have HD13 := Lib.hid hb13
      have HO13 := Lib.hid (HO12.out.trans ho13 (by simp; exact hg9))
      clear hb13 ho13)
    have ho14 : Only [] w13 w13.drew := (Only.refl [] w13).drew
    have HO14 := Lib.hid (HO13.out.trans ho14 (by simp))
    have HD14 := Lib.hid (HD13.out.kept ho14 (by simp))
    obtain ⟨S2, hS2⟩ : ∃ S, S = strOf b := ⟨_, rfl⟩
    have HS2 := Lib.hid hS2
    have s14 := str_bytes (VB.out.kept HO14.out (clean_nil _)) hS2
    refine wp_region_held_drew (S := fun w' => PB w' g9 27 (n' :: c') ∧ (convert 23 9 (.slice b0 b.length b1)).run Try.prog w' = .ok (.string S2) w') (by kernel_rfl) ⟨HD14.out, s14⟩ (fun hH => ?_)
    clear ho14 s14 hS2 HD13 HO13 HD12 HO12
    generalize w13.drew = w14 at HO14 HD14 hH ⊢
    refine take_list (i := 0) (v := ?_) rfl (by kernel_rfl) (by kernel_rfl) (by kernel_rfl) (fun _ _ _ h => h) (Or.inl ⟨by rfl, ?_⟩) hH ?_
    rotate_left
    · ((intro w hSw; (try dsimp only at hSw); go_simp); try with_reducible rfl)
    simp only [Act.put, List.setIfInBounds_toArray, List.set_cons_zero, List.set_cons_succ]
    refine take_list (i := 1) (v := ?_) rfl (by kernel_rfl) (by kernel_rfl) (by kernel_rfl) (fun _ _ _ h => h) (Or.inl ⟨by rfl, ?_⟩) hH ?_
    rotate_left
    · ((intro w hSw; (try dsimp only at hSw); go_simp); try with_reducible rfl)
    simp only [Act.put, List.setIfInBounds_toArray, List.set_cons_zero, List.set_cons_succ]
    refine take_list (i := 2) (v := ?_) rfl (by kernel_rfl) (by kernel_rfl) (by kernel_rfl) (fun _ _ _ h => h) (Or.inl ⟨by rfl, ?_⟩) hH ?_
    rotate_left
    · ((intro w hSw; (try dsimp only at hSw); go_simp); try with_reducible rfl)
    simp only [Act.put, List.setIfInBounds_toArray, List.set_cons_zero, List.set_cons_succ]
    refine take_list (i := 3) (v := .agg (ivA (n' :: c'))) rfl (by kernel_rfl) (by kernel_rfl) (by kernel_rfl) (fun _ _ _ h => h) (Or.inl ⟨by rfl, ?_⟩) hH ?_
    · intro w hw
      have h1 := hw.1
      simp [execOp, Act.eval, Instr.loadAt, Instr.sureAddr, load_page h1 HL'.out, Result.andThen]
    simp only [Act.put, List.setIfInBounds_toArray, List.set_cons_zero, List.set_cons_succ]
    have s14 := hH.2
    refine take_list (i := 6) (v := ?_) rfl (by kernel_rfl) (by kernel_rfl) (by kernel_rfl) (fun _ _ _ h => h) (Or.inl ⟨by rfl, ?_⟩) hH ?_
    rotate_left
    · ((intro w hSw; go_simp); try with_reducible rfl)
    simp only [Act.put, List.setIfInBounds_toArray, List.set_cons_zero, List.set_cons_succ]
    refine take_list (i := 7) (v := .string S2) rfl (by kernel_rfl) (by kernel_rfl) (by kernel_rfl) (fun _ _ _ h => h) (Or.inl ⟨by rfl, ?_⟩) hH ?_
    · intro w hSw
      have hc2 := hSw.2
      clear hSw s14 hH
      go_simp
    simp only [Act.put, List.setIfInBounds_toArray, List.set_cons_zero, List.set_cons_succ]
    refine wpAnyH_ready (rs := [4]) (by kernel_rfl) (by simp) ?_
    refine ready_list rfl (fun K hK => ?_)
    go_simp
    refine (Encode_any n' c' w14 HP'.out).mono ?_
    rintro e w15 ⟨g15, rfl, hb15, hg15, o15⟩
    have hpl' := penc_length HP'.out
    obtain ⟨S1, hS1⟩ : ∃ S, S = strOf (penc n' c') := ⟨_, rfl⟩
    have hby15 := hb15.bytes 512
    rw [hpl'] at hby15
    have s15 := str_bytes hby15 hS1
    have HO15 := Lib.hid (HO14.out.trans o15 (by simp))
    have HD15 := Lib.hid (HD14.out.kept o15 (by simp))
    have t15 := str_bytes (VB.out.kept HO15.out (clean_nil _)) HS2.out
    have HS1 := Lib.hid hS1
    clear hH hb15 hg15 o15 HD14 HO14 hby15 s14 hS1
    refine hK.out _ _ ⟨HD15.out, t15⟩ (fun hH => ?_)
    clear hK K
    refine wpAnyH_ready (rs := [5]) (by kernel_rfl) (by simp) ?_
    refine ready_list rfl (fun K hK => ?_)
    go_simp
    refine hK.out _ _ hH (fun hH => ?_)
    clear hK K s15 t15
    rcases hcases with ⟨hz, rfl, rfl⟩ | ⟨hnz, hen⟩
    · have hq := str_ne HS1.out HS2.out (by rw [hz]; exact penc_ne HP'.out)
      have mk := make_512p
      obtain ⟨S3, hS3⟩ : ∃ S, S = strOf zeros := ⟨_, rfl⟩
      have hq2 : (S2.toList == S3.toList) = true := by rw [str_eq HS2.out hS3]; simp [hz]
      have HS3 := Lib.hid hS3
      clear hz hS3
      refine take_list (i := 8) (v := ?_) rfl (by kernel_rfl) (by kernel_rfl) (by kernel_rfl) (fun _ _ _ h => h) (Or.inl ⟨by rfl, ?_⟩) hH ?_
      rotate_left
      · ((intro w hSw; (try dsimp only at hSw); go_simp); try with_reducible rfl)
      simp only [Act.put, List.setIfInBounds_toArray, List.set_cons_zero, List.set_cons_succ]
      refine take_list (i := 9) (v := ?_) rfl (by kernel_rfl) (by kernel_rfl) (by kernel_rfl) (fun _ _ _ h => h) (Or.inl ⟨by rfl, ?_⟩) hH ?_
      rotate_left
      · ((intro w hSw; (try dsimp only at hSw); go_simp); try with_reducible rfl)
      simp only [Act.put, List.setIfInBounds_toArray, List.set_cons_zero, List.set_cons_succ]
      refine take_list (i := 10) (v := ?_) rfl (by kernel_rfl) (by kernel_rfl) (by kernel_rfl) (fun _ _ _ h => h) (Or.inl ⟨by rfl, ?_⟩) hH ?_
      rotate_left
      · ((intro w hSw; (try dsimp only at hSw); go_simp); try with_reducible rfl)
      simp only [Act.put, List.setIfInBounds_toArray, List.set_cons_zero, List.set_cons_succ]
      refine take_list (i := 11) (v := .agg (ivA (0 :: blankP))) rfl (by kernel_rfl) (by kernel_rfl) (by kernel_rfl) (fun _ _ _ h => h) (Or.inl ⟨by rfl, ?_⟩) hH ?_
      · intro w hw
        have h1 := hw.1
        simp [execOp, Act.eval, Instr.loadAt, Instr.sureAddr, load_page h1 (by rfl), Result.andThen]
      simp only [Act.put, List.setIfInBounds_toArray, List.set_cons_zero, List.set_cons_succ]
      refine take_list (i := 12) (v := .agg (ivA (0 :: blankP))) rfl (by kernel_rfl) (by kernel_rfl) (by kernel_rfl) (fun _ _ _ h => h) (Or.inl ⟨by rfl, fun w hw => exec_blank w _ _ rfl⟩) hH ?_
      simp only [Act.put, List.setIfInBounds_toArray, List.set_cons_zero, List.set_cons_succ]
      refine take_list (i := 13) (v := .bool true) rfl (by kernel_rfl) (by kernel_rfl) (by kernel_rfl) (fun _ _ _ h => h) (Or.inl ⟨by rfl, fun w hw => exec_eqlr true w _ _ (.tmp 64) (.tmp 65) rfl 0 0 blankP blankP (by rfl) (by rfl) (by rfl) (by rfl) (by simp)⟩) hH ?_
      simp only [Act.put, List.setIfInBounds_toArray, List.set_cons_zero, List.set_cons_succ]
      refine take_list (i := 14) (v := ?_) rfl (by kernel_rfl) (by kernel_rfl) (by kernel_rfl) (fun _ _ _ h => h) (Or.inl ⟨by rfl, ?_⟩) hH ?_
      rotate_left
      · ((intro w hSw; (try dsimp only at hSw); go_simp); try with_reducible rfl)
      simp only [Act.put, List.setIfInBounds_toArray, List.set_cons_zero, List.set_cons_succ]
      refine take_list (i := 15) (v := ?_) rfl (by kernel_rfl) (by kernel_rfl) (by kernel_rfl) (fun _ _ _ h => h) (Or.inl ⟨by rfl, ?_⟩) hH ?_
      rotate_left
      · ((intro w hSw; (try dsimp only at hSw); go_simp); try with_reducible rfl)
      simp only [Act.put, List.setIfInBounds_toArray, List.set_cons_zero, List.set_cons_succ]
      refine take_list (i := 16) (v := .string S2) rfl (by kernel_rfl) (by kernel_rfl) (by kernel_rfl) (fun _ _ _ h => h) (Or.inl ⟨by rfl, ?_⟩) hH ?_
      · intro w hSw
        have hc2 := hSw.2
        clear hSw hH
        go_simp
      simp only [Act.put, List.setIfInBounds_toArray, List.set_cons_zero, List.set_cons_succ]
      refine wpAnyH_ready (rs := [17]) (by kernel_rfl) (by simp) ?_
      refine ready_list rfl (fun K hK => ?_)
      go_simp
      have o16 : Only [] w15 (w15.alloc (.cells (enc zeros) 5)) := (Only.refl [] w15).alloc _
      have hz16 : BBlk (w15.alloc (.cells (enc zeros) 5)) w15.heap.size zeros := heap_new w15 _
      have hby16 := hz16.bytes 512
      rw [zeros_length] at hby16
      have s16 := str_bytes hby16 HS3.out
      have HO16 := Lib.hid (HO15.out.trans o16 (by simp))
      have HD16 := Lib.hid (HD15.out.kept o16 (by simp))
      have t16 := str_bytes (VB.out.kept HO16.out (clean_nil _)) HS2.out
      clear hH hby16 hz16 o16
      refine hK.out _ _ ⟨HD16.out, t16⟩ (fun hH => ?_)
      clear hK K
      refine wpAnyH_ready (rs := [18]) (by kernel_rfl) (by simp) ?_
      refine ready_list rfl (fun K hK => ?_)
      go_simp
      refine hK.out _ _ hH (fun hH => ?_)
      clear hK K s16 t16
      refine take_list (i := 19) (v := ?_) rfl (by kernel_rfl) (by kernel_rfl) (by kernel_rfl) (fun _ _ _ h => h) (Or.inl ⟨by rfl, ?_⟩) hH ?_
      rotate_left
      · ((intro w hSw; (try dsimp only at hSw); go_simp); try with_reducible rfl)
      simp only [Act.put, List.setIfInBounds_toArray, List.set_cons_zero, List.set_cons_succ]
      refine take_list (i := 20) (v := ?_) rfl (by kernel_rfl) (by kernel_rfl) (by kernel_rfl) (fun _ _ _ h => h) (Or.inl ⟨by rfl, ?_⟩) hH ?_
      rotate_left
      · ((intro w hSw; (try dsimp only at hSw); go_simp); try with_reducible rfl)
      simp only [Act.put, List.setIfInBounds_toArray, List.set_cons_zero, List.set_cons_succ]
      refine take_list (i := 21) (v := ?_) rfl (by kernel_rfl) (by kernel_rfl) (by kernel_rfl) (fun _ _ _ h => h) (Or.inl ⟨by rfl, ?_⟩) hH ?_
      rotate_left
      · ((intro w hSw; (try dsimp only at hSw); go_simp); try with_reducible rfl)
      simp only [Act.put, List.setIfInBounds_toArray, List.set_cons_zero, List.set_cons_succ]
      refine take_list (i := 22) (v := ?_) rfl (by kernel_rfl) (by kernel_rfl) (by kernel_rfl) (fun _ _ _ h => h) (Or.inl ⟨by rfl, ?_⟩) hH ?_
      rotate_left
      · ((intro w hSw; (try dsimp only at hSw); go_simp); try with_reducible rfl)
      simp only [Act.put, List.setIfInBounds_toArray, List.set_cons_zero, List.set_cons_succ]
      refine wpAnyH_done (by kernel_rfl) ?_ _
      go_wp2
      go_ret
      exact ⟨rfl, HO16.out⟩
    · have hq : (S1.toList == S2.toList) = true := by rw [str_eq HS1.out HS2.out]; simp [hen]
      refine take_list (i := 8) (v := ?_) rfl (by kernel_rfl) (by kernel_rfl) (by kernel_rfl) (fun _ _ _ h => h) (Or.inl ⟨by rfl, ?_⟩) hH ?_
      rotate_left
      · ((intro w hSw; (try dsimp only at hSw); go_simp); try with_reducible rfl)
      simp only [Act.put, List.setIfInBounds_toArray, List.set_cons_zero, List.set_cons_succ]
      refine take_list (i := 9) (v := ?_) rfl (by kernel_rfl) (by kernel_rfl) (by kernel_rfl) (fun _ _ _ h => h) (Or.inl ⟨by rfl, ?_⟩) hH ?_
      rotate_left
      · ((intro w hSw; (try dsimp only at hSw); go_simp); try with_reducible rfl)
      simp only [Act.put, List.setIfInBounds_toArray, List.set_cons_zero, List.set_cons_succ]
      refine take_list (i := 10) (v := ?_) rfl (by kernel_rfl) (by kernel_rfl) (by kernel_rfl) (fun _ _ _ h => h) (Or.inl ⟨by rfl, ?_⟩) hH ?_
      rotate_left
      · ((intro w hSw; (try dsimp only at hSw); go_simp); try with_reducible rfl)
      simp only [Act.put, List.setIfInBounds_toArray, List.set_cons_zero, List.set_cons_succ]
      refine take_list (i := 11) (v := undef) rfl (by kernel_rfl) (by kernel_rfl) (by kernel_rfl) (fun _ _ _ h => h) (Or.inr ⟨by rfl, rfl⟩) hH ?_
      simp only [Act.put, List.setIfInBounds_toArray, List.set_cons_zero, List.set_cons_succ]
      refine take_list (i := 12) (v := undef) rfl (by kernel_rfl) (by kernel_rfl) (by kernel_rfl) (fun _ _ _ h => h) (Or.inr ⟨by rfl, rfl⟩) hH ?_
      simp only [Act.put, List.setIfInBounds_toArray, List.set_cons_zero, List.set_cons_succ]
      refine take_list (i := 13) (v := undef) rfl (by kernel_rfl) (by kernel_rfl) (by kernel_rfl) (fun _ _ _ h => h) (Or.inr ⟨by rfl, rfl⟩) hH ?_
      simp only [Act.put, List.setIfInBounds_toArray, List.set_cons_zero, List.set_cons_succ]
      refine take_list (i := 14) (v := undef) rfl (by kernel_rfl) (by kernel_rfl) (by kernel_rfl) (fun _ _ _ h => h) (Or.inr ⟨by rfl, rfl⟩) hH ?_
      simp only [Act.put, List.setIfInBounds_toArray, List.set_cons_zero, List.set_cons_succ]
      refine take_list (i := 15) (v := undef) rfl (by kernel_rfl) (by kernel_rfl) (by kernel_rfl) (fun _ _ _ h => h) (Or.inr ⟨by rfl, rfl⟩) hH ?_
      simp only [Act.put, List.setIfInBounds_toArray, List.set_cons_zero, List.set_cons_succ]
      refine take_list (i := 16) (v := undef) rfl (by kernel_rfl) (by kernel_rfl) (by kernel_rfl) (fun _ _ _ h => h) (Or.inr ⟨by rfl, rfl⟩) hH ?_
      simp only [Act.put, List.setIfInBounds_toArray, List.set_cons_zero, List.set_cons_succ]
      refine take_list (i := 17) (v := undef) rfl (by kernel_rfl) (by kernel_rfl) (by kernel_rfl) (fun _ _ _ h => h) (Or.inr ⟨by rfl, rfl⟩) hH ?_
      simp only [Act.put, List.setIfInBounds_toArray, List.set_cons_zero, List.set_cons_succ]
      refine take_list (i := 18) (v := undef) rfl (by kernel_rfl) (by kernel_rfl) (by kernel_rfl) (fun _ _ _ h => h) (Or.inr ⟨by rfl, rfl⟩) hH ?_
      simp only [Act.put, List.setIfInBounds_toArray, List.set_cons_zero, List.set_cons_succ]
      refine take_list (i := 19) (v := undef) rfl (by kernel_rfl) (by kernel_rfl) (by kernel_rfl) (fun _ _ _ h => h) (Or.inr ⟨by rfl, rfl⟩) hH ?_
      simp only [Act.put, List.setIfInBounds_toArray, List.set_cons_zero, List.set_cons_succ]
      refine take_list (i := 20) (v := undef) rfl (by kernel_rfl) (by kernel_rfl) (by kernel_rfl) (fun _ _ _ h => h) (Or.inr ⟨by rfl, rfl⟩) hH ?_
      simp only [Act.put, List.setIfInBounds_toArray, List.set_cons_zero, List.set_cons_succ]
      refine take_list (i := 21) (v := ?_) rfl (by kernel_rfl) (by kernel_rfl) (by kernel_rfl) (fun _ _ _ h => h) (Or.inl ⟨by rfl, ?_⟩) hH ?_
      rotate_left
      · ((intro w hSw; (try dsimp only at hSw); go_simp); try with_reducible rfl)
      simp only [Act.put, List.setIfInBounds_toArray, List.set_cons_zero, List.set_cons_succ]
      refine take_list (i := 22) (v := ?_) rfl (by kernel_rfl) (by kernel_rfl) (by kernel_rfl) (fun _ _ _ h => h) (Or.inl ⟨by rfl, ?_⟩) hH ?_
      rotate_left
      · ((intro w hSw; (try dsimp only at hSw); go_simp); try with_reducible rfl)
      simp only [Act.put, List.setIfInBounds_toArray, List.set_cons_zero, List.set_cons_succ]
      refine wpAnyH_done (by kernel_rfl) ?_ _
      go_wp2
      go_ret
      exact ⟨rfl, HO15.out⟩

set_option maxRecDepth 100000 in
theorem pback_lifted (os : Os) (started : os.Started) (H : Type) (enc : TypeId × Value → H) :
    ReturnsInHanded {} Try.checked os 4 .any (Rows.pageBackSpec.pre6 enc Try.prog Try.f4 Rows.pageBackRow.domain false) (Rows.pageBackSpec.post enc Try.prog Try.f4 false true false false) := by
  refine returnsInHanded_of_change (C := Try.checked) law_own started (by kernel_rfl) Try.func4
    (ChangeSpec.witness6 (enc := enc) (C := Try.checked) false ⟨#[], #[.int .i64 0, .slice none 0 0, .slice none 0 0], []⟩ 8 (by kernel_rfl) (by kernel_rfl) (by kernel_rfl) (by kernel_rfl)) ?_
  intro W base args ds gs before hval0 hW hcnd _
  have hval : ∀ (j : Nat) t v, Try.f4.params[j]? = some t → args[j]? = some v → Value.okWide Try.prog W .any base t v := hval0
  have hW' := hW
  obtain ⟨p, q, hA0, hV, rfl, hfz, hnd⟩ := hW
  have hA : DataW.TrodAll enc Try.prog W 0 (fun _ => true) true Try.f4.params.toList args.toList ds p := hA0
  rw [Try.params4] at hA hval
  obtain ⟨v0, vs0, d0, ds0, p0, q0, hargs, rfl, rfl, h0, r0⟩ := trodAll_cons hA
  obtain ⟨v1, vs1, d1, ds1, p1, q1, rfl, rfl, rfl, h1, r1⟩ := trodAll_cons r0
  obtain ⟨v2, vs2, d2, ds2, p2, q2, rfl, rfl, rfl, h2, r2⟩ := trodAll_cons r1
  obtain ⟨rfl, rfl, rfl⟩ := trodAll_nil r2
  obtain rfl : args = #[v0, v1, v2] := by cases args; simp_all
  obtain ⟨rfl, rfl⟩ := trodVars_none hV
  obtain ⟨a0, rfl, rfl, rfl, w0⟩ := open_int Try.underlying3 (hval 0 3 v0 rfl rfl) h0
  have h1' := h1
  obtain ⟨sa1, sl1, sc1, rfl⟩ := okWide_slice Try.underlying22 (hval 1 22 v1 rfl rfl)
  obtain ⟨fuel1, hf1⟩ := h1
  obtain ⟨l1, hs1, _, hl1⟩ := open_nums (v := .slice sa1 sl1 sc1) hf1
  have hlt1 : ∀ x ∈ p1, x.block < W.heap.size := fun x hx => hW'.lt x (by simp [hx])
  have h2' := h2
  obtain ⟨sa2, sl2, sc2, rfl⟩ := okWide_slice Try.underlying23 (hval 2 23 v2 rfl rfl)
  obtain ⟨fuel2, hf2⟩ := h2
  obtain ⟨l2, hs2, hfit2, hl2⟩ := open_bytes (v := .slice sa2 sl2 sc2) hf2
  have hlt2 : ∀ x ∈ p2, x.block < W.heap.size := fun x hx => hW'.lt x (by simp [hx])
  clear hA0 hval0
  refine (pback_walk a0 _ _ l1 l2 W w0 hs1 hl1 hs2 hfit2 hl2).mono fun e W' ⟨he, hg⟩ => ?_
  subst he
  exact ⟨_, rfl, post_quiet (pa := ([] ++ (p1 ++ (p2 ++ [])))) (pv := []) hW' hg (fun _ _ _ => (trodAll_cons_mk (shut_bool Try.underlying4 _) trodAll_mk0)) (fun sp hsp => (trodAll_cons_mk (shut_int Try.underlying3 w0) (trodAll_cons_mk (arg_stays (by kernel_rfl) (of_decide_eq_true (by kernel_rfl)) h1' hg hlt1 (fun x hx => hsp x (by simp [hx]))) (trodAll_cons_mk (arg_stays (by kernel_rfl) (of_decide_eq_true (by kernel_rfl)) h2' hg hlt2 (fun x hx => hsp x (by simp [hx]))) trodAll_mk0)))) (fun _ _ => rfl) (by simp) (ok_one (by kernel_rfl) rfl (okWide_bool_mk Try.underlying4 _))⟩

theorem pback_over : Rows.pageBackRow.holds Try.pinned (OpenSpec.ofChange Rows.pageBackSpec) :=
  OpenClaim.holds_of_wide 4 Try.f4 rfl rfl rfl rfl rfl rfl rfl ⟨rfl, rfl, rfl, rfl, rfl⟩ rfl rfl rfl rfl rfl (by kernel_rfl) Try.func4 (by kernel_rfl)
    (of_decide_eq_true (by kernel_rfl)) (by unfold Func.isWrapper; first | (rw [if_pos (by decide +kernel)]; kernel_rfl) | (rw [if_neg (by decide +kernel)]; exact ⟨rfl, rfl⟩))
    (fun os started H enc _ => pback_lifted os started H enc)

/-- The statement. -/
theorem pback_holds : Rows.PageBackSaid :=
  pback_over
#print axioms pback_holds

end Go.Proofs.Ythacfanfhdjmbaa
