/- PageForms, for every input: it returns true, and its arguments read behind the call as they did: what sector each page has, and which sectors are a page's. No condition. -/
import Derived.Test.YthacfanfhdjmbaaPR2
import Derived.Test.YthacfanfhdjmbaaNum
namespace Go.Proofs.Ythacfanfhdjmbaa
open Go.ChangeShapes Go.WideShapes Go.ChangeAt Go.RowKit Go.Deep Go.Maps
set_option linter.unusedSimpArgs false
set_option linter.unusedVariables false

theorem CopyB.fit5 {g : Nat} {l : Sec} (hl : l.length ≤ 1099511627776) : Fit (.slice (some ⟨g, 0, none⟩) l.length (l.length + 2)) := fun a n c e => by
  cases e
  unfold maxLen
  omega
set_option maxRecDepth 100000 in
set_option maxHeartbeats 4000000 in
theorem pforms_walk (lsn : Int) (va vb : Value) (l : List Int) (b : Sec) (w : World) (hs : (Lit.int .i64 lsn).wf = true) (hva : IntsV w va l) (hl : l.length ≤ maxLen) (hvb : Bytes w vb b) (hfb : Fit vb) (hbl : b.length ≤ maxLen) :
    Calls Try.prog 3 #[.int .i64 lsn, va, vb] w fun e w' => e = .returned (.bool true) ∧ Only [] w w' := by
  have hl' : l.length ≤ 9223372036854775807 := by unfold maxLen at hl; omega
  have hbl' : b.length ≤ 9223372036854775807 := by unfold maxLen at hbl; omega
  have hp : PForm lsn (filC l 60) := ⟨in64_wf hs, filC_length l 60, filC_in (ints_in hva) 60⟩
  obtain ⟨a0, a1, rfl, -⟩ := id hva
  obtain ⟨b0, b1, rfl, -⟩ := id hvb
  have VA := Lib.hid hva
  have VB := Lib.hid hvb
  have VF := Lib.hid hfb
  have HP := Lib.hid hp
  clear hva hvb hfb hs hl hbl hp
  go_enter Try.func3, Try.ntmps3
  go_wp2_with fail
  refine (alive5_any _).mono ?_
  rintro e w1 ⟨rfl, o1⟩
  have HO1 := Lib.hid o1
  clear o1
  by_cases hbig : 16384 < b.length
  · have hbig' : (16384 : Int) < (b.length : Int) := by omega
    go_wp2
    go_ret
    exact ⟨rfl, HO1.out⟩
  have hsm' : ¬ (16384 : Int) < (b.length : Int) := by omega
  have HSM := Lib.hid hbig
  clear hbig
  go_wp2_with fail
  refine (filled_any lsn _ l w1 (VA.out.kept HO1.out (by intro a n c e h; simp)) hl').mono ?_
  rintro e w2 ⟨rfl, o2⟩
  have HO2 := Lib.hid (HO1.out.trans o2 (by simp))
  clear o2 hl' HO1 VA
  obtain ⟨c, hc⟩ : ∃ c, c = filC l 60 := ⟨_, rfl⟩
  rw [← hc] at HP ⊢
  clear hc
  have HL : Hid ((lsn :: c).length = 61) := Lib.hid (by rw [List.length_cons, HP.out.len])
  have T1 := trivial
  go_wp2_with (first
    | (clear T1
       refine wpList_new_page rfl rfl ?_
       intro w3 g4 hb3 hg3 ho3
       have HB3 := Lib.hid hb3
       have HG3 := Lib.hid (Nat.le_trans HO2.out.size hg3)
       have HO3 := Lib.hid (HO2.out.trans ho3 (by simp))
       clear hb3 hg3 ho3)
    | (refine wpList_store_page rfl _ _ rfl g4 (lsn :: c) (by rfl) (by rfl) HL.out _ HB3.out (by rfl) ?_
       intro w4 hb4 ho4
       have HP4 := Lib.hid hb4
       have HO4 := Lib.hid (HO3.out.trans ho4 (by simp; exact HG3.out))
       clear hb4 ho4))
  clear HB3 HO3 HO2
  refine (Copy_any _ b w4 (VB.out.kept HO4.out (clean_nil _)) (by have := HSM.out; omega)).mono ?_
  rintro e w5 ⟨gc, rfl, hcb, hgc, o5⟩
  have HCB5 := Lib.hid hcb
  have HP5 := Lib.hid (HP4.out.kept o5 (by simp))
  have HO5 := Lib.hid (HO4.out.trans o5 (by simp))
  have hne1 : gc ≠ g4 := by have := HP4.out.lt; omega
  have hgc5 : gc < w5.heap.size := by
    obtain ⟨cur, hg, _⟩ := hcb
    exact lt_of_heap hg
  have HGC5 := Lib.hid hgc5
  clear hcb hgc o5 HP4 HO4 hgc5
  go_wp2_with fail
  refine (Decode_any _ b w5 HCB5.out.bytes (CopyB.fit5 (by have := HSM.out; omega)) (by have := HSM.out; omega)).mono ?_
  rintro e w6 ⟨o6, hs6, hn6⟩
  have HCB6 := Lib.hid (HCB5.out.kept o6 (by simp))
  have HP6 := Lib.hid (HP5.out.kept o6 (by simp))
  have HGC6 := Lib.hid (Nat.lt_of_lt_of_le HGC5.out o6.size)
  have HO6 := Lib.hid (HO5.out.trans o6 (by simp))
  clear o6 HCB5 HP5 HO5 HGC5
  have q1 := iface_nil
  have q2 := iface_err
  have q3 := err_n44
  cases hd : pdec b with
  | none =>
    obtain rfl := hn6 hd
    have HD := Lib.hid hd
    have HLX : Hid ((0 :: blankP).length = 61) := Lib.hid rfl
    clear hs6 hn6 hd
    have T4 := trivial
    go_wp2_with (first
      | (clear T4
         refine wpList_new_page rfl rfl ?_
         intro w7 g9 hb7 hg7 ho7
         have hneA : g9 ≠ g4 := by have := HP6.out.lt; omega
         have hgc6 : gc < w6.heap.size := HGC6.out
         have hneB : g9 ≠ gc := by omega
         have HP7 := Lib.hid (HP6.out.kept ho7 (by simp))
         have HQ7 := Lib.hid hb7
         have HCB7 := Lib.hid (HCB6.out.kept ho7 (by simp))
         have HG7 := Lib.hid (Nat.le_trans HO6.out.size hg7)
         have HO7 := Lib.hid (HO6.out.trans ho7 (by simp))
         have HGC7 := Lib.hid (Nat.lt_of_lt_of_le HGC6.out ho7.size)
         clear hb7 hg7 ho7 hgc6)
      | (refine wpList_store_page rfl _ _ rfl g9 (0 :: blankP) (by rfl) (by rfl) HLX.out _ HQ7.out (by rfl) ?_
         intro w8 hb8 ho8
         have HP8 := Lib.hid (HP7.out.kept ho8 (by simp; omega))
         have HQ8 := Lib.hid hb8
         have HCB8 := Lib.hid (HCB7.out.kept ho8 (by simp; omega))
         have HO8 := Lib.hid (HO7.out.trans ho8 (by simp; exact HG7.out))
         have HGC8 := Lib.hid (Nat.lt_of_lt_of_le HGC7.out ho8.size)
         clear hb8 ho8))
    refine (RDecode_any _ b w8 (VB.out.kept HO8.out (clean_nil _)) VF.out (by have := HSM.out; omega)).mono ?_
    rintro e w10 ⟨o10, hs10, hn10⟩
    have HP10 := Lib.hid (HP8.out.kept o10 (by simp))
    have HQ10 := Lib.hid (HQ8.out.kept o10 (by simp))
    have HCB10 := Lib.hid (HCB8.out.kept o10 (by simp))
    have HGC10 := Lib.hid (Nat.lt_of_lt_of_le HGC8.out o10.size)
    have HO10 := Lib.hid (HO8.out.trans o10 (by simp))
    clear o10 HP8 HQ8 HCB8 HGC8 HO8 HP7 HQ7 HCB7 HGC7 HO7 HP6 HCB6 HGC6 HO6
    obtain rfl := hn10 HD.out
    clear hs10 hn10
    have T5 := trivial
    have T6 := trivial
    go_wp2_with (first
      | (clear T6
         refine wpList_new_page rfl rfl ?_
         intro w11 g11 hb11 hg11 ho11
         have hneC : g11 ≠ g4 := by have := HP10.out.lt; omega
         have hneD : g11 ≠ g9 := by have := HQ10.out.lt; omega
         have HP11 := Lib.hid (HP10.out.kept ho11 (by simp))
         have HQ11 := Lib.hid (HQ10.out.kept ho11 (by simp))
         have HR11 := Lib.hid hb11
         have HCB11 := Lib.hid (HCB10.out.kept ho11 (by simp))
         have HG11 := Lib.hid (Nat.le_trans HO10.out.size hg11)
         have hgc : gc < w10.heap.size := HGC10.out
         have hneE : g11 ≠ gc := by omega
         have HO11 := Lib.hid (HO10.out.trans ho11 (by simp))
         clear hb11 hg11 ho11)
      | (refine wpList_store_page rfl _ _ rfl g11 (0 :: blankP) (by rfl) (by rfl) HLX.out _ HR11.out (by rfl) ?_
         intro w12 hb12 ho12
         have HP12 := Lib.hid (HP11.out.kept ho12 (by simp; omega))
         have HQ12 := Lib.hid (HQ11.out.kept ho12 (by simp; omega))
         have HR12 := Lib.hid hb12
         have HCB12 := Lib.hid (HCB11.out.kept ho12 (by simp; omega))
         have HO12 := Lib.hid (HO11.out.trans ho12 (by simp; exact HG11.out))
         clear hb12 ho12))
    have o13 : Only [] w12 w12.drew := (Only.refl [] w12).drew
    have HP13 := Lib.hid (HP12.out.kept o13 (by simp))
    have HQ13 := Lib.hid (HQ12.out.kept o13 (by simp))
    have HR13 := Lib.hid (HR12.out.kept o13 (by simp))
    have HCB13 := Lib.hid (HCB12.out.kept o13 (by simp))
    have HO13 := Lib.hid (HO12.out.trans o13 (by simp))
    refine wp_region_held_drew (S := fun w' => PB w' g4 27 (lsn :: c) ∧ PB w' g9 27 (0 :: blankP) ∧ PB w' g11 27 (0 :: blankP)) (by kernel_rfl) ⟨HP13.out, HQ13.out, HR13.out⟩ (fun hH => ?_)
    clear o13 HP12 HQ12 HR12 HCB12 HO12 HP11 HQ11 HR11 HCB11 HO11 HP10 HQ10 HCB10 HO10
    generalize w12.drew = w13 at HP13 HQ13 HR13 HCB13 HO13 hH ⊢
    refine take_list (i := 0) (v := .agg (ivA (lsn :: c))) rfl (by kernel_rfl) (by kernel_rfl) (by kernel_rfl) (fun _ _ _ h => h) (Or.inl ⟨by rfl, ?_⟩) hH ?_
    · intro w hw
      have h1 := hw.1
      simp [execOp, Act.eval, Instr.loadAt, Instr.sureAddr, load_page h1 HL.out, Result.andThen]
    simp only [Act.put, List.setIfInBounds_toArray, List.set_cons_zero, List.set_cons_succ]
    refine take_list (i := 3) (v := .agg (ivA (lsn :: c))) rfl (by kernel_rfl) (by kernel_rfl) (by kernel_rfl) (fun _ _ _ h => h) (Or.inl ⟨by rfl, ?_⟩) hH ?_
    · intro w hw
      have h1 := hw.1
      simp [execOp, Act.eval, Instr.loadAt, Instr.sureAddr, load_page h1 HL.out, Result.andThen]
    simp only [Act.put, List.setIfInBounds_toArray, List.set_cons_zero, List.set_cons_succ]
    refine wpAnyH_ready (rs := [1]) (by kernel_rfl) (by simp) ?_
    refine ready_list rfl (fun K hK => ?_)
    go_simp
    refine (Encode_any lsn c w13 HP.out).mono ?_
    rintro e w14 ⟨g14, rfl, h14, hg14, o14⟩
    have hpl := penc_length HP.out
    obtain ⟨S1, hS1⟩ : ∃ S, S = strOf (penc lsn c) := ⟨_, rfl⟩
    have HS1 := Lib.hid hS1
    have hby14 := h14.bytes 512
    rw [hpl] at hby14
    have s14 := str_bytes hby14 hS1
    have HX14 := Lib.hid hby14
    have HP14 := Lib.hid (HP13.out.kept o14 (by simp))
    have HQ14 := Lib.hid (HQ13.out.kept o14 (by simp))
    have HR14 := Lib.hid (HR13.out.kept o14 (by simp))
    have HCB14 := Lib.hid (HCB13.out.kept o14 (by simp))
    have HO14 := Lib.hid (HO13.out.trans o14 (by simp))
    clear hH h14 hg14 o14 hby14 hS1 HP13 HQ13 HR13 HCB13 HO13
    refine hK.out _ _ ⟨HP14.out, HQ14.out, HR14.out⟩ (fun hH => ?_)
    clear hK K hH
    refine wpAnyH_sharpen (S' := fun w' => (PB w' g4 27 (lsn :: c) ∧ PB w' g9 27 (0 :: blankP) ∧ PB w' g11 27 (0 :: blankP)) ∧ (convert 23 9 (.slice (some ⟨g14, 0, none⟩) 512 512)).run Try.prog w' = .ok (.string S1) w') (fun w h => h.1) ?_
    have hH : (PB w14 g4 27 (lsn :: c) ∧ PB w14 g9 27 (0 :: blankP) ∧ PB w14 g11 27 (0 :: blankP)) ∧ (convert 23 9 (.slice (some ⟨g14, 0, none⟩) 512 512)).run Try.prog w14 = .ok (.string S1) w14 := ⟨⟨HP14.out, HQ14.out, HR14.out⟩, s14⟩
    clear s14
    refine take_list (i := 2) (v := .string S1) rfl (by kernel_rfl) (by kernel_rfl) (by kernel_rfl) (fun _ _ _ h => h) (Or.inl ⟨by rfl, ?_⟩) hH ?_
    · intro w hSw
      have hc2 := hSw.2
      clear hSw hH
      go_simp
    simp only [Act.put, List.setIfInBounds_toArray, List.set_cons_zero, List.set_cons_succ]
    refine wpAnyH_ready (rs := [4]) (by kernel_rfl) (by simp) ?_
    refine ready_list rfl (fun K hK => ?_)
    go_simp
    refine (REncode_any lsn c w14 HP.out).mono ?_
    rintro e w15 ⟨a15, c15, rfl, h15, o15⟩
    have s15 := str_bytes h15.bytes HS1.out
    have t15 := str_bytes (HX14.out.kept o15 (clean_nil _)) HS1.out
    have HP15 := Lib.hid (HP14.out.kept o15 (by simp))
    have HQ15 := Lib.hid (HQ14.out.kept o15 (by simp))
    have HR15 := Lib.hid (HR14.out.kept o15 (by simp))
    have HCB15 := Lib.hid (HCB14.out.kept o15 (by simp))
    have HO15 := Lib.hid (HO14.out.trans o15 (by simp))
    clear hH h15 o15 HP14 HQ14 HR14 HCB14 HO14 HX14
    refine hK.out _ _ ⟨⟨HP15.out, HQ15.out, HR15.out⟩, t15⟩ (fun hH => ?_)
    clear hK K
    refine wpAnyH_ready (rs := [5]) (by kernel_rfl) (by simp) ?_
    refine ready_list rfl (fun K hK => ?_)
    go_simp
    refine hK.out _ _ hH (fun hH => ?_)
    clear hK K s15 t15
    have hq : (S1.toList == S1.toList) = true := by simp
    refine take_list (i := 6) (v := ?_) rfl (by kernel_rfl) (by kernel_rfl) (by kernel_rfl) (fun _ _ _ h => h) (Or.inl ⟨by rfl, ?_⟩) hH ?_
    rotate_left
    · ((intro w hSw; (try dsimp only at hSw); go_simp); try with_reducible rfl)
    simp only [Act.put, List.setIfInBounds_toArray, List.set_cons_zero, List.set_cons_succ]
    refine take_list (i := 7) (v := ?_) rfl (by kernel_rfl) (by kernel_rfl) (by kernel_rfl) (fun _ _ _ h => h) (Or.inl ⟨by rfl, ?_⟩) hH ?_
    rotate_left
    · ((intro w hSw; (try dsimp only at hSw); go_simp); try with_reducible rfl)
    simp only [Act.put, List.setIfInBounds_toArray, List.set_cons_zero, List.set_cons_succ]
    refine take_list (i := 8) (v := ?_) rfl (by kernel_rfl) (by kernel_rfl) (by kernel_rfl) (fun _ _ _ h => h) (Or.inl ⟨by rfl, ?_⟩) hH ?_
    rotate_left
    · ((intro w hSw; (try dsimp only at hSw); go_simp); try with_reducible rfl)
    simp only [Act.put, List.setIfInBounds_toArray, List.set_cons_zero, List.set_cons_succ]
    refine take_list (i := 9) (v := ?_) rfl (by kernel_rfl) (by kernel_rfl) (by kernel_rfl) (fun _ _ _ h => h) (Or.inl ⟨by rfl, ?_⟩) hH ?_
    rotate_left
    · ((intro w hSw; (try dsimp only at hSw); go_simp); try with_reducible rfl)
    simp only [Act.put, List.setIfInBounds_toArray, List.set_cons_zero, List.set_cons_succ]
    refine take_list (i := 10) (v := ?_) rfl (by kernel_rfl) (by kernel_rfl) (by kernel_rfl) (fun _ _ _ h => h) (Or.inl ⟨by rfl, ?_⟩) hH ?_
    rotate_left
    · ((intro w hSw; (try dsimp only at hSw); go_simp); try with_reducible rfl)
    simp only [Act.put, List.setIfInBounds_toArray, List.set_cons_zero, List.set_cons_succ]
    refine take_list (i := 11) (v := ?_) rfl (by kernel_rfl) (by kernel_rfl) (by kernel_rfl) (fun _ _ _ h => h) (Or.inl ⟨by rfl, ?_⟩) hH ?_
    rotate_left
    · ((intro w hSw; (try dsimp only at hSw); go_simp); try with_reducible rfl)
    simp only [Act.put, List.setIfInBounds_toArray, List.set_cons_zero, List.set_cons_succ]
    refine take_list (i := 12) (v := ?_) rfl (by kernel_rfl) (by kernel_rfl) (by kernel_rfl) (fun _ _ _ h => h) (Or.inl ⟨by rfl, ?_⟩) hH ?_
    rotate_left
    · ((intro w hSw; (try dsimp only at hSw); go_simp); try with_reducible rfl)
    simp only [Act.put, List.setIfInBounds_toArray, List.set_cons_zero, List.set_cons_succ]
    refine take_list (i := 13) (v := ?_) rfl (by kernel_rfl) (by kernel_rfl) (by kernel_rfl) (fun _ _ _ h => h) (Or.inl ⟨by rfl, ?_⟩) hH ?_
    rotate_left
    · ((intro w hSw; (try dsimp only at hSw); go_simp); try with_reducible rfl)
    simp only [Act.put, List.setIfInBounds_toArray, List.set_cons_zero, List.set_cons_succ]
    refine take_list (i := 14) (v := ?_) rfl (by kernel_rfl) (by kernel_rfl) (by kernel_rfl) (fun _ _ _ h => h) (Or.inl ⟨by rfl, ?_⟩) hH ?_
    rotate_left
    · ((intro w hSw; (try dsimp only at hSw); go_simp); try with_reducible rfl)
    simp only [Act.put, List.setIfInBounds_toArray, List.set_cons_zero, List.set_cons_succ]
    refine take_list (i := 15) (v := ?_) rfl (by kernel_rfl) (by kernel_rfl) (by kernel_rfl) (fun _ _ _ h => h) (Or.inl ⟨by rfl, ?_⟩) hH ?_
    rotate_left
    · ((intro w hSw; (try dsimp only at hSw); go_simp); try with_reducible rfl)
    simp only [Act.put, List.setIfInBounds_toArray, List.set_cons_zero, List.set_cons_succ]
    refine take_list (i := 16) (v := undef) rfl (by kernel_rfl) (by kernel_rfl) (by kernel_rfl) (fun _ _ _ h => h) (Or.inr ⟨by rfl, rfl⟩) hH ?_
    simp only [Act.put, List.setIfInBounds_toArray, List.set_cons_zero, List.set_cons_succ]
    refine take_list (i := 17) (v := undef) rfl (by kernel_rfl) (by kernel_rfl) (by kernel_rfl) (fun _ _ _ h => h) (Or.inr ⟨by rfl, rfl⟩) hH ?_
    simp only [Act.put, List.setIfInBounds_toArray, List.set_cons_zero, List.set_cons_succ]
    refine take_list (i := 18) (v := undef) rfl (by kernel_rfl) (by kernel_rfl) (by kernel_rfl) (fun _ _ _ h => h) (Or.inr ⟨by rfl, rfl⟩) hH ?_
    simp only [Act.put, List.setIfInBounds_toArray, List.set_cons_zero, List.set_cons_succ]
    refine take_list (i := 19) (v := ?_) rfl (by kernel_rfl) (by kernel_rfl) (by kernel_rfl) (fun _ _ _ h => h) (Or.inl ⟨by rfl, ?_⟩) hH ?_
    rotate_left
    · ((intro w hSw; (try dsimp only at hSw); go_simp); try with_reducible rfl)
    simp only [Act.put, List.setIfInBounds_toArray, List.set_cons_zero, List.set_cons_succ]
    refine take_list (i := 20) (v := ?_) rfl (by kernel_rfl) (by kernel_rfl) (by kernel_rfl) (fun _ _ _ h => h) (Or.inl ⟨by rfl, ?_⟩) hH ?_
    rotate_left
    · ((intro w hSw; (try dsimp only at hSw); go_simp); try with_reducible rfl)
    simp only [Act.put, List.setIfInBounds_toArray, List.set_cons_zero, List.set_cons_succ]
    refine take_list (i := 21) (v := ?_) rfl (by kernel_rfl) (by kernel_rfl) (by kernel_rfl) (fun _ _ _ h => h) (Or.inl ⟨by rfl, ?_⟩) hH ?_
    rotate_left
    · ((intro w hSw; (try dsimp only at hSw); go_simp); try with_reducible rfl)
    simp only [Act.put, List.setIfInBounds_toArray, List.set_cons_zero, List.set_cons_succ]
    refine take_list (i := 22) (v := ?_) rfl (by kernel_rfl) (by kernel_rfl) (by kernel_rfl) (fun _ _ _ h => h) (Or.inl ⟨by rfl, ?_⟩) hH ?_
    rotate_left
    · ((intro w hSw; (try dsimp only at hSw); go_simp); try with_reducible rfl)
    simp only [Act.put, List.setIfInBounds_toArray, List.set_cons_zero, List.set_cons_succ]
    refine take_list (i := 23) (v := ?_) rfl (by kernel_rfl) (by kernel_rfl) (by kernel_rfl) (fun _ _ _ h => h) (Or.inl ⟨by rfl, ?_⟩) hH ?_
    rotate_left
    · ((intro w hSw; (try dsimp only at hSw); go_simp); try with_reducible rfl)
    simp only [Act.put, List.setIfInBounds_toArray, List.set_cons_zero, List.set_cons_succ]
    refine take_list (i := 24) (v := ?_) rfl (by kernel_rfl) (by kernel_rfl) (by kernel_rfl) (fun _ _ _ h => h) (Or.inl ⟨by rfl, ?_⟩) hH ?_
    rotate_left
    · ((intro w hSw; (try dsimp only at hSw); go_simp); try with_reducible rfl)
    simp only [Act.put, List.setIfInBounds_toArray, List.set_cons_zero, List.set_cons_succ]
    refine take_list (i := 25) (v := ?_) rfl (by kernel_rfl) (by kernel_rfl) (by kernel_rfl) (fun _ _ _ h => h) (Or.inl ⟨by rfl, ?_⟩) hH ?_
    rotate_left
    · ((intro w hSw; (try dsimp only at hSw); go_simp); try with_reducible rfl)
    simp only [Act.put, List.setIfInBounds_toArray, List.set_cons_zero, List.set_cons_succ]
    refine take_list (i := 26) (v := ?_) rfl (by kernel_rfl) (by kernel_rfl) (by kernel_rfl) (fun _ _ _ h => h) (Or.inl ⟨by rfl, ?_⟩) hH ?_
    rotate_left
    · ((intro w hSw; (try dsimp only at hSw); go_simp); try with_reducible rfl)
    simp only [Act.put, List.setIfInBounds_toArray, List.set_cons_zero, List.set_cons_succ]
    refine take_list (i := 27) (v := ?_) rfl (by kernel_rfl) (by kernel_rfl) (by kernel_rfl) (fun _ _ _ h => h) (Or.inl ⟨by rfl, ?_⟩) hH ?_
    rotate_left
    · ((intro w hSw; (try dsimp only at hSw); go_simp); try with_reducible rfl)
    simp only [Act.put, List.setIfInBounds_toArray, List.set_cons_zero, List.set_cons_succ]
    refine take_list (i := 28) (v := ?_) rfl (by kernel_rfl) (by kernel_rfl) (by kernel_rfl) (fun _ _ _ h => h) (Or.inl ⟨by rfl, ?_⟩) hH ?_
    rotate_left
    · ((intro w hSw; (try dsimp only at hSw); go_simp); try with_reducible rfl)
    simp only [Act.put, List.setIfInBounds_toArray, List.set_cons_zero, List.set_cons_succ]
    refine take_list (i := 29) (v := .agg (ivA (0 :: blankP))) rfl (by kernel_rfl) (by kernel_rfl) (by kernel_rfl) (fun _ _ _ h => h) (Or.inl ⟨by rfl, ?_⟩) hH ?_
    · intro w hw
      have h1 := hw.1.2.1
      simp [execOp, Act.eval, Instr.loadAt, Instr.sureAddr, load_page h1 HLX.out, Result.andThen]
    simp only [Act.put, List.setIfInBounds_toArray, List.set_cons_zero, List.set_cons_succ]
    refine take_list (i := 30) (v := .agg (ivA (0 :: blankP))) rfl (by kernel_rfl) (by kernel_rfl) (by kernel_rfl) (fun _ _ _ h => h) (Or.inl ⟨by rfl, fun w hw => exec_blank w _ _ rfl⟩) hH ?_
    simp only [Act.put, List.setIfInBounds_toArray, List.set_cons_zero, List.set_cons_succ]
    refine take_list (i := 31) (v := .bool false) rfl (by kernel_rfl) (by kernel_rfl) (by kernel_rfl) (fun _ _ _ h => h) (Or.inl ⟨by rfl, fun w hw => exec_neqr false w _ _ (.tmp 62) (.tmp 63) rfl 0 0 blankP blankP (by rfl) (by rfl) (by rfl) (by rfl) (by simp)⟩) hH ?_
    simp only [Act.put, List.setIfInBounds_toArray, List.set_cons_zero, List.set_cons_succ]
    refine take_list (i := 32) (v := ?_) rfl (by kernel_rfl) (by kernel_rfl) (by kernel_rfl) (fun _ _ _ h => h) (Or.inl ⟨by rfl, ?_⟩) hH ?_
    rotate_left
    · ((intro w hSw; (try dsimp only at hSw); go_simp); try with_reducible rfl)
    simp only [Act.put, List.setIfInBounds_toArray, List.set_cons_zero, List.set_cons_succ]
    refine take_list (i := 33) (v := ?_) rfl (by kernel_rfl) (by kernel_rfl) (by kernel_rfl) (fun _ _ _ h => h) (Or.inl ⟨by rfl, ?_⟩) hH ?_
    rotate_left
    · ((intro w hSw; (try dsimp only at hSw); go_simp); try with_reducible rfl)
    simp only [Act.put, List.setIfInBounds_toArray, List.set_cons_zero, List.set_cons_succ]
    refine take_list (i := 34) (v := ?_) rfl (by kernel_rfl) (by kernel_rfl) (by kernel_rfl) (fun _ _ _ h => h) (Or.inl ⟨by rfl, ?_⟩) hH ?_
    rotate_left
    · ((intro w hSw; (try dsimp only at hSw); go_simp); try with_reducible rfl)
    simp only [Act.put, List.setIfInBounds_toArray, List.set_cons_zero, List.set_cons_succ]
    refine wpAnyH_done (by kernel_rfl) ?_ _
    clear hH
    go_wp2_with fail
    refine (Kept_any gc _ b w15 HCB15.out (VB.out.kept HO15.out (clean_nil _)) (by have := HSM.out; omega)).mono ?_
    rintro e w16 ⟨rfl, o16⟩
    have HO16 := Lib.hid (HO15.out.trans o16 (by simp))
    clear o16
    go_wp2
    go_ret
    exact ⟨rfl, HO16.out⟩
  | some nc =>
    obtain ⟨n', c'⟩ := nc
    obtain rfl := hs6 n' c' hd
    have HD := Lib.hid hd
    have hp' := (pdec_inv hd).1
    have HLC := Lib.hid hp'.len
    have HLX : Hid ((n' :: c').length = 61) := Lib.hid (by rw [List.length_cons, hp'.len])
    clear hs6 hn6 hd hp'
    have T4 := trivial
    go_wp2_with (first
      | (clear T4
         refine wpList_new_page rfl rfl ?_
         intro w7 g9 hb7 hg7 ho7
         have hneA : g9 ≠ g4 := by have := HP6.out.lt; omega
         have hgc6 : gc < w6.heap.size := HGC6.out
         have hneB : g9 ≠ gc := by omega
         have HP7 := Lib.hid (HP6.out.kept ho7 (by simp))
         have HQ7 := Lib.hid hb7
         have HCB7 := Lib.hid (HCB6.out.kept ho7 (by simp))
         have HG7 := Lib.hid (Nat.le_trans HO6.out.size hg7)
         have HO7 := Lib.hid (HO6.out.trans ho7 (by simp))
         have HGC7 := Lib.hid (Nat.lt_of_lt_of_le HGC6.out ho7.size)
         clear hb7 hg7 ho7 hgc6)
      | (refine wpList_store_page rfl _ _ rfl g9 (n' :: c') (by rfl) (by rfl) HLX.out _ HQ7.out (by rfl) ?_
         intro w8 hb8 ho8
         have HP8 := Lib.hid (HP7.out.kept ho8 (by simp; omega))
         have HQ8 := Lib.hid hb8
         have HCB8 := Lib.hid (HCB7.out.kept ho8 (by simp; omega))
         have HO8 := Lib.hid (HO7.out.trans ho8 (by simp; exact HG7.out))
         have HGC8 := Lib.hid (Nat.lt_of_lt_of_le HGC7.out ho8.size)
         clear hb8 ho8))
    refine (RDecode_any _ b w8 (VB.out.kept HO8.out (clean_nil _)) VF.out (by have := HSM.out; omega)).mono ?_
    rintro e w10 ⟨o10, hs10, hn10⟩
    have HP10 := Lib.hid (HP8.out.kept o10 (by simp))
    have HQ10 := Lib.hid (HQ8.out.kept o10 (by simp))
    have HCB10 := Lib.hid (HCB8.out.kept o10 (by simp))
    have HGC10 := Lib.hid (Nat.lt_of_lt_of_le HGC8.out o10.size)
    have HO10 := Lib.hid (HO8.out.trans o10 (by simp))
    clear o10 HP8 HQ8 HCB8 HGC8 HO8 HP7 HQ7 HCB7 HGC7 HO7 HP6 HCB6 HGC6 HO6
    obtain rfl := hs10 n' c' HD.out
    clear hs10 hn10
    have T5 := trivial
    have T6 := trivial
    go_wp2_with (first
      | (clear T6
         refine wpList_new_page rfl rfl ?_
         intro w11 g11 hb11 hg11 ho11
         have hneC : g11 ≠ g4 := by have := HP10.out.lt; omega
         have hneD : g11 ≠ g9 := by have := HQ10.out.lt; omega
         have HP11 := Lib.hid (HP10.out.kept ho11 (by simp))
         have HQ11 := Lib.hid (HQ10.out.kept ho11 (by simp))
         have HR11 := Lib.hid hb11
         have HCB11 := Lib.hid (HCB10.out.kept ho11 (by simp))
         have HG11 := Lib.hid (Nat.le_trans HO10.out.size hg11)
         have hgc : gc < w10.heap.size := HGC10.out
         have hneE : g11 ≠ gc := by omega
         have HO11 := Lib.hid (HO10.out.trans ho11 (by simp))
         clear hb11 hg11 ho11)
      | (refine wpList_store_page rfl _ _ rfl g11 (n' :: c') (by rfl) (by rfl) HLX.out _ HR11.out (by rfl) ?_
         intro w12 hb12 ho12
         have HP12 := Lib.hid (HP11.out.kept ho12 (by simp; omega))
         have HQ12 := Lib.hid (HQ11.out.kept ho12 (by simp; omega))
         have HR12 := Lib.hid hb12
         have HCB12 := Lib.hid (HCB11.out.kept ho12 (by simp; omega))
         have HO12 := Lib.hid (HO11.out.trans ho12 (by simp; exact HG11.out))
         clear hb12 ho12))
    have o13 : Only [] w12 w12.drew := (Only.refl [] w12).drew
    have HP13 := Lib.hid (HP12.out.kept o13 (by simp))
    have HQ13 := Lib.hid (HQ12.out.kept o13 (by simp))
    have HR13 := Lib.hid (HR12.out.kept o13 (by simp))
    have HCB13 := Lib.hid (HCB12.out.kept o13 (by simp))
    have HO13 := Lib.hid (HO12.out.trans o13 (by simp))
    refine wp_region_held_drew (S := fun w' => PB w' g4 27 (lsn :: c) ∧ PB w' g9 27 (n' :: c') ∧ PB w' g11 27 (n' :: c')) (by kernel_rfl) ⟨HP13.out, HQ13.out, HR13.out⟩ (fun hH => ?_)
    clear o13 HP12 HQ12 HR12 HCB12 HO12 HP11 HQ11 HR11 HCB11 HO11 HP10 HQ10 HCB10 HO10
    generalize w12.drew = w13 at HP13 HQ13 HR13 HCB13 HO13 hH ⊢
    refine take_list (i := 0) (v := .agg (ivA (lsn :: c))) rfl (by kernel_rfl) (by kernel_rfl) (by kernel_rfl) (fun _ _ _ h => h) (Or.inl ⟨by rfl, ?_⟩) hH ?_
    · intro w hw
      have h1 := hw.1
      simp [execOp, Act.eval, Instr.loadAt, Instr.sureAddr, load_page h1 HL.out, Result.andThen]
    simp only [Act.put, List.setIfInBounds_toArray, List.set_cons_zero, List.set_cons_succ]
    refine take_list (i := 3) (v := .agg (ivA (lsn :: c))) rfl (by kernel_rfl) (by kernel_rfl) (by kernel_rfl) (fun _ _ _ h => h) (Or.inl ⟨by rfl, ?_⟩) hH ?_
    · intro w hw
      have h1 := hw.1
      simp [execOp, Act.eval, Instr.loadAt, Instr.sureAddr, load_page h1 HL.out, Result.andThen]
    simp only [Act.put, List.setIfInBounds_toArray, List.set_cons_zero, List.set_cons_succ]
    refine wpAnyH_ready (rs := [1]) (by kernel_rfl) (by simp) ?_
    refine ready_list rfl (fun K hK => ?_)
    go_simp
    refine (Encode_any lsn c w13 HP.out).mono ?_
    rintro e w14 ⟨g14, rfl, h14, hg14, o14⟩
    have hpl := penc_length HP.out
    obtain ⟨S1, hS1⟩ : ∃ S, S = strOf (penc lsn c) := ⟨_, rfl⟩
    have HS1 := Lib.hid hS1
    have hby14 := h14.bytes 512
    rw [hpl] at hby14
    have s14 := str_bytes hby14 hS1
    have HX14 := Lib.hid hby14
    have HP14 := Lib.hid (HP13.out.kept o14 (by simp))
    have HQ14 := Lib.hid (HQ13.out.kept o14 (by simp))
    have HR14 := Lib.hid (HR13.out.kept o14 (by simp))
    have HCB14 := Lib.hid (HCB13.out.kept o14 (by simp))
    have HO14 := Lib.hid (HO13.out.trans o14 (by simp))
    clear hH h14 hg14 o14 hby14 hS1 HP13 HQ13 HR13 HCB13 HO13
    refine hK.out _ _ ⟨HP14.out, HQ14.out, HR14.out⟩ (fun hH => ?_)
    clear hK K hH
    refine wpAnyH_sharpen (S' := fun w' => (PB w' g4 27 (lsn :: c) ∧ PB w' g9 27 (n' :: c') ∧ PB w' g11 27 (n' :: c')) ∧ (convert 23 9 (.slice (some ⟨g14, 0, none⟩) 512 512)).run Try.prog w' = .ok (.string S1) w') (fun w h => h.1) ?_
    have hH : (PB w14 g4 27 (lsn :: c) ∧ PB w14 g9 27 (n' :: c') ∧ PB w14 g11 27 (n' :: c')) ∧ (convert 23 9 (.slice (some ⟨g14, 0, none⟩) 512 512)).run Try.prog w14 = .ok (.string S1) w14 := ⟨⟨HP14.out, HQ14.out, HR14.out⟩, s14⟩
    clear s14
    refine take_list (i := 2) (v := .string S1) rfl (by kernel_rfl) (by kernel_rfl) (by kernel_rfl) (fun _ _ _ h => h) (Or.inl ⟨by rfl, ?_⟩) hH ?_
    · intro w hSw
      have hc2 := hSw.2
      clear hSw hH
      go_simp
    simp only [Act.put, List.setIfInBounds_toArray, List.set_cons_zero, List.set_cons_succ]
    refine wpAnyH_ready (rs := [4]) (by kernel_rfl) (by simp) ?_
    refine ready_list rfl (fun K hK => ?_)
    go_simp
    refine (REncode_any lsn c w14 HP.out).mono ?_
    rintro e w15 ⟨a15, c15, rfl, h15, o15⟩
    have s15 := str_bytes h15.bytes HS1.out
    have t15 := str_bytes (HX14.out.kept o15 (clean_nil _)) HS1.out
    have HP15 := Lib.hid (HP14.out.kept o15 (by simp))
    have HQ15 := Lib.hid (HQ14.out.kept o15 (by simp))
    have HR15 := Lib.hid (HR14.out.kept o15 (by simp))
    have HCB15 := Lib.hid (HCB14.out.kept o15 (by simp))
    have HO15 := Lib.hid (HO14.out.trans o15 (by simp))
    clear hH h15 o15 HP14 HQ14 HR14 HCB14 HO14 HX14
    refine hK.out _ _ ⟨⟨HP15.out, HQ15.out, HR15.out⟩, t15⟩ (fun hH => ?_)
    clear hK K
    refine wpAnyH_ready (rs := [5]) (by kernel_rfl) (by simp) ?_
    refine ready_list rfl (fun K hK => ?_)
    go_simp
    refine hK.out _ _ hH (fun hH => ?_)
    clear hK K s15 t15
    have hq : (S1.toList == S1.toList) = true := by simp
    refine take_list (i := 6) (v := ?_) rfl (by kernel_rfl) (by kernel_rfl) (by kernel_rfl) (fun _ _ _ h => h) (Or.inl ⟨by rfl, ?_⟩) hH ?_
    rotate_left
    · ((intro w hSw; (try dsimp only at hSw); go_simp); try with_reducible rfl)
    simp only [Act.put, List.setIfInBounds_toArray, List.set_cons_zero, List.set_cons_succ]
    refine take_list (i := 7) (v := ?_) rfl (by kernel_rfl) (by kernel_rfl) (by kernel_rfl) (fun _ _ _ h => h) (Or.inl ⟨by rfl, ?_⟩) hH ?_
    rotate_left
    · ((intro w hSw; (try dsimp only at hSw); go_simp); try with_reducible rfl)
    simp only [Act.put, List.setIfInBounds_toArray, List.set_cons_zero, List.set_cons_succ]
    refine take_list (i := 8) (v := ?_) rfl (by kernel_rfl) (by kernel_rfl) (by kernel_rfl) (fun _ _ _ h => h) (Or.inl ⟨by rfl, ?_⟩) hH ?_
    rotate_left
    · ((intro w hSw; (try dsimp only at hSw); go_simp); try with_reducible rfl)
    simp only [Act.put, List.setIfInBounds_toArray, List.set_cons_zero, List.set_cons_succ]
    refine take_list (i := 9) (v := ?_) rfl (by kernel_rfl) (by kernel_rfl) (by kernel_rfl) (fun _ _ _ h => h) (Or.inl ⟨by rfl, ?_⟩) hH ?_
    rotate_left
    · ((intro w hSw; (try dsimp only at hSw); go_simp); try with_reducible rfl)
    simp only [Act.put, List.setIfInBounds_toArray, List.set_cons_zero, List.set_cons_succ]
    refine take_list (i := 10) (v := ?_) rfl (by kernel_rfl) (by kernel_rfl) (by kernel_rfl) (fun _ _ _ h => h) (Or.inl ⟨by rfl, ?_⟩) hH ?_
    rotate_left
    · ((intro w hSw; (try dsimp only at hSw); go_simp); try with_reducible rfl)
    simp only [Act.put, List.setIfInBounds_toArray, List.set_cons_zero, List.set_cons_succ]
    refine take_list (i := 11) (v := ?_) rfl (by kernel_rfl) (by kernel_rfl) (by kernel_rfl) (fun _ _ _ h => h) (Or.inl ⟨by rfl, ?_⟩) hH ?_
    rotate_left
    · ((intro w hSw; (try dsimp only at hSw); go_simp); try with_reducible rfl)
    simp only [Act.put, List.setIfInBounds_toArray, List.set_cons_zero, List.set_cons_succ]
    refine take_list (i := 12) (v := ?_) rfl (by kernel_rfl) (by kernel_rfl) (by kernel_rfl) (fun _ _ _ h => h) (Or.inl ⟨by rfl, ?_⟩) hH ?_
    rotate_left
    · ((intro w hSw; (try dsimp only at hSw); go_simp); try with_reducible rfl)
    simp only [Act.put, List.setIfInBounds_toArray, List.set_cons_zero, List.set_cons_succ]
    refine take_list (i := 13) (v := ?_) rfl (by kernel_rfl) (by kernel_rfl) (by kernel_rfl) (fun _ _ _ h => h) (Or.inl ⟨by rfl, ?_⟩) hH ?_
    rotate_left
    · ((intro w hSw; (try dsimp only at hSw); go_simp); try with_reducible rfl)
    simp only [Act.put, List.setIfInBounds_toArray, List.set_cons_zero, List.set_cons_succ]
    refine take_list (i := 14) (v := ?_) rfl (by kernel_rfl) (by kernel_rfl) (by kernel_rfl) (fun _ _ _ h => h) (Or.inl ⟨by rfl, ?_⟩) hH ?_
    rotate_left
    · ((intro w hSw; (try dsimp only at hSw); go_simp); try with_reducible rfl)
    simp only [Act.put, List.setIfInBounds_toArray, List.set_cons_zero, List.set_cons_succ]
    refine take_list (i := 15) (v := ?_) rfl (by kernel_rfl) (by kernel_rfl) (by kernel_rfl) (fun _ _ _ h => h) (Or.inl ⟨by rfl, ?_⟩) hH ?_
    rotate_left
    · ((intro w hSw; (try dsimp only at hSw); go_simp); try with_reducible rfl)
    simp only [Act.put, List.setIfInBounds_toArray, List.set_cons_zero, List.set_cons_succ]
    refine take_list (i := 16) (v := .agg (ivA (n' :: c'))) rfl (by kernel_rfl) (by kernel_rfl) (by kernel_rfl) (fun _ _ _ h => h) (Or.inl ⟨by rfl, ?_⟩) hH ?_
    · intro w hw
      have h1 := hw.1.2.1
      simp [execOp, Act.eval, Instr.loadAt, Instr.sureAddr, load_page h1 HLX.out, Result.andThen]
    simp only [Act.put, List.setIfInBounds_toArray, List.set_cons_zero, List.set_cons_succ]
    refine take_list (i := 17) (v := .agg (ivA (n' :: c'))) rfl (by kernel_rfl) (by kernel_rfl) (by kernel_rfl) (fun _ _ _ h => h) (Or.inl ⟨by rfl, ?_⟩) hH ?_
    · intro w hw
      have h1 := hw.1.2.2
      simp [execOp, Act.eval, Instr.loadAt, Instr.sureAddr, load_page h1 HLX.out, Result.andThen]
    simp only [Act.put, List.setIfInBounds_toArray, List.set_cons_zero, List.set_cons_succ]
    refine take_list (i := 18) (v := .bool false) rfl (by kernel_rfl) (by kernel_rfl) (by kernel_rfl) (fun _ _ _ h => h) (Or.inl ⟨by rfl, fun w hw => exec_neqr false w _ _ (.tmp 49) (.tmp 50) rfl n' n' c' c' (by rfl) (by rfl) HLC.out HLC.out (by simp)⟩) hH ?_
    simp only [Act.put, List.setIfInBounds_toArray, List.set_cons_zero, List.set_cons_succ]
    refine take_list (i := 19) (v := ?_) rfl (by kernel_rfl) (by kernel_rfl) (by kernel_rfl) (fun _ _ _ h => h) (Or.inl ⟨by rfl, ?_⟩) hH ?_
    rotate_left
    · ((intro w hSw; (try dsimp only at hSw); go_simp); try with_reducible rfl)
    simp only [Act.put, List.setIfInBounds_toArray, List.set_cons_zero, List.set_cons_succ]
    refine take_list (i := 20) (v := ?_) rfl (by kernel_rfl) (by kernel_rfl) (by kernel_rfl) (fun _ _ _ h => h) (Or.inl ⟨by rfl, ?_⟩) hH ?_
    rotate_left
    · ((intro w hSw; (try dsimp only at hSw); go_simp); try with_reducible rfl)
    simp only [Act.put, List.setIfInBounds_toArray, List.set_cons_zero, List.set_cons_succ]
    refine take_list (i := 21) (v := ?_) rfl (by kernel_rfl) (by kernel_rfl) (by kernel_rfl) (fun _ _ _ h => h) (Or.inl ⟨by rfl, ?_⟩) hH ?_
    rotate_left
    · ((intro w hSw; (try dsimp only at hSw); go_simp); try with_reducible rfl)
    simp only [Act.put, List.setIfInBounds_toArray, List.set_cons_zero, List.set_cons_succ]
    refine take_list (i := 22) (v := ?_) rfl (by kernel_rfl) (by kernel_rfl) (by kernel_rfl) (fun _ _ _ h => h) (Or.inl ⟨by rfl, ?_⟩) hH ?_
    rotate_left
    · ((intro w hSw; (try dsimp only at hSw); go_simp); try with_reducible rfl)
    simp only [Act.put, List.setIfInBounds_toArray, List.set_cons_zero, List.set_cons_succ]
    refine take_list (i := 23) (v := ?_) rfl (by kernel_rfl) (by kernel_rfl) (by kernel_rfl) (fun _ _ _ h => h) (Or.inl ⟨by rfl, ?_⟩) hH ?_
    rotate_left
    · ((intro w hSw; (try dsimp only at hSw); go_simp); try with_reducible rfl)
    simp only [Act.put, List.setIfInBounds_toArray, List.set_cons_zero, List.set_cons_succ]
    refine take_list (i := 24) (v := ?_) rfl (by kernel_rfl) (by kernel_rfl) (by kernel_rfl) (fun _ _ _ h => h) (Or.inl ⟨by rfl, ?_⟩) hH ?_
    rotate_left
    · ((intro w hSw; (try dsimp only at hSw); go_simp); try with_reducible rfl)
    simp only [Act.put, List.setIfInBounds_toArray, List.set_cons_zero, List.set_cons_succ]
    refine take_list (i := 25) (v := undef) rfl (by kernel_rfl) (by kernel_rfl) (by kernel_rfl) (fun _ _ _ h => h) (Or.inr ⟨by rfl, rfl⟩) hH ?_
    simp only [Act.put, List.setIfInBounds_toArray, List.set_cons_zero, List.set_cons_succ]
    refine take_list (i := 26) (v := undef) rfl (by kernel_rfl) (by kernel_rfl) (by kernel_rfl) (fun _ _ _ h => h) (Or.inr ⟨by rfl, rfl⟩) hH ?_
    simp only [Act.put, List.setIfInBounds_toArray, List.set_cons_zero, List.set_cons_succ]
    refine take_list (i := 27) (v := undef) rfl (by kernel_rfl) (by kernel_rfl) (by kernel_rfl) (fun _ _ _ h => h) (Or.inr ⟨by rfl, rfl⟩) hH ?_
    simp only [Act.put, List.setIfInBounds_toArray, List.set_cons_zero, List.set_cons_succ]
    refine take_list (i := 28) (v := undef) rfl (by kernel_rfl) (by kernel_rfl) (by kernel_rfl) (fun _ _ _ h => h) (Or.inr ⟨by rfl, rfl⟩) hH ?_
    simp only [Act.put, List.setIfInBounds_toArray, List.set_cons_zero, List.set_cons_succ]
    refine take_list (i := 29) (v := undef) rfl (by kernel_rfl) (by kernel_rfl) (by kernel_rfl) (fun _ _ _ h => h) (Or.inr ⟨by rfl, rfl⟩) hH ?_
    simp only [Act.put, List.setIfInBounds_toArray, List.set_cons_zero, List.set_cons_succ]
    refine take_list (i := 30) (v := undef) rfl (by kernel_rfl) (by kernel_rfl) (by kernel_rfl) (fun _ _ _ h => h) (Or.inr ⟨by rfl, rfl⟩) hH ?_
    simp only [Act.put, List.setIfInBounds_toArray, List.set_cons_zero, List.set_cons_succ]
    refine take_list (i := 31) (v := undef) rfl (by kernel_rfl) (by kernel_rfl) (by kernel_rfl) (fun _ _ _ h => h) (Or.inr ⟨by rfl, rfl⟩) hH ?_
    simp only [Act.put, List.setIfInBounds_toArray, List.set_cons_zero, List.set_cons_succ]
    refine take_list (i := 32) (v := undef) rfl (by kernel_rfl) (by kernel_rfl) (by kernel_rfl) (fun _ _ _ h => h) (Or.inr ⟨by rfl, rfl⟩) hH ?_
    simp only [Act.put, List.setIfInBounds_toArray, List.set_cons_zero, List.set_cons_succ]
    refine take_list (i := 33) (v := ?_) rfl (by kernel_rfl) (by kernel_rfl) (by kernel_rfl) (fun _ _ _ h => h) (Or.inl ⟨by rfl, ?_⟩) hH ?_
    rotate_left
    · ((intro w hSw; (try dsimp only at hSw); go_simp); try with_reducible rfl)
    simp only [Act.put, List.setIfInBounds_toArray, List.set_cons_zero, List.set_cons_succ]
    refine take_list (i := 34) (v := ?_) rfl (by kernel_rfl) (by kernel_rfl) (by kernel_rfl) (fun _ _ _ h => h) (Or.inl ⟨by rfl, ?_⟩) hH ?_
    rotate_left
    · ((intro w hSw; (try dsimp only at hSw); go_simp); try with_reducible rfl)
    simp only [Act.put, List.setIfInBounds_toArray, List.set_cons_zero, List.set_cons_succ]
    refine wpAnyH_done (by kernel_rfl) ?_ _
    clear hH
    go_wp2_with fail
    refine (Kept_any gc _ b w15 HCB15.out (VB.out.kept HO15.out (clean_nil _)) (by have := HSM.out; omega)).mono ?_
    rintro e w16 ⟨rfl, o16⟩
    have HO16 := Lib.hid (HO15.out.trans o16 (by simp))
    clear o16
    go_wp2
    go_ret
    exact ⟨rfl, HO16.out⟩

set_option maxRecDepth 100000 in
theorem pforms_lifted (os : Os) (started : os.Started) (H : Type) (enc : TypeId × Value → H) :
    ReturnsInHanded {} Try.checked os 3 .any (Rows.pageFormsSpec.pre6 enc Try.prog Try.f3 Rows.pageFormsRow.domain false) (Rows.pageFormsSpec.post enc Try.prog Try.f3 false true false false) := by
  refine returnsInHanded_of_change (C := Try.checked) law_own started (by kernel_rfl) Try.func3
    (ChangeSpec.witness6 (enc := enc) (C := Try.checked) false ⟨#[], #[.int .i64 0, .slice none 0 0, .slice none 0 0], []⟩ 8 (by kernel_rfl) (by kernel_rfl) (by kernel_rfl) (by kernel_rfl)) ?_
  intro W base args ds gs before hval0 hW hcnd _
  have hval : ∀ (j : Nat) t v, Try.f3.params[j]? = some t → args[j]? = some v → Value.okWide Try.prog W .any base t v := hval0
  have hW' := hW
  obtain ⟨p, q, hA0, hV, rfl, hfz, hnd⟩ := hW
  have hA : DataW.TrodAll enc Try.prog W 0 (fun _ => true) true Try.f3.params.toList args.toList ds p := hA0
  rw [Try.params3] at hA hval
  obtain ⟨v0, vs0, d0, ds0, p0, q0, hargs, rfl, rfl, h0, r0⟩ := trodAll_cons hA
  obtain ⟨v1, vs1, d1, ds1, p1, q1, rfl, rfl, rfl, h1, r1⟩ := trodAll_cons r0
  obtain ⟨v2, vs2, d2, ds2, p2, q2, rfl, rfl, rfl, h2, r2⟩ := trodAll_cons r1
  obtain ⟨rfl, rfl, rfl⟩ := trodAll_nil r2
  obtain rfl : args = #[v0, v1, v2] := by cases args; simp_all
  obtain ⟨rfl, rfl⟩ := trodVars_none hV
  obtain ⟨a0, rfl, rfl, rfl, w0⟩ := open_int Try.underlying3 (hval 0 3 v0 rfl rfl) h0
  have h1' := h1
  obtain ⟨sa1, sl1, sc1, rfl⟩ := okWide_slice Try.underlying22 (hval 1 22 v1 rfl rfl)
  obtain ⟨fuel1, hf1⟩ := h1
  obtain ⟨l1, hs1, _, hl1⟩ := open_nums (v := .slice sa1 sl1 sc1) hf1
  have hlt1 : ∀ x ∈ p1, x.block < W.heap.size := fun x hx => hW'.lt x (by simp [hx])
  have h2' := h2
  obtain ⟨sa2, sl2, sc2, rfl⟩ := okWide_slice Try.underlying23 (hval 2 23 v2 rfl rfl)
  obtain ⟨fuel2, hf2⟩ := h2
  obtain ⟨l2, hs2, hfit2, hl2⟩ := open_bytes (v := .slice sa2 sl2 sc2) hf2
  have hlt2 : ∀ x ∈ p2, x.block < W.heap.size := fun x hx => hW'.lt x (by simp [hx])
  clear hA0 hval0
  refine (pforms_walk a0 _ _ l1 l2 W w0 hs1 hl1 hs2 hfit2 hl2).mono fun e W' ⟨he, hg⟩ => ?_
  subst he
  exact ⟨_, rfl, post_quiet (pa := ([] ++ (p1 ++ (p2 ++ [])))) (pv := []) hW' hg (fun _ _ _ => (trodAll_cons_mk (shut_bool Try.underlying4 _) trodAll_mk0)) (fun sp hsp => (trodAll_cons_mk (shut_int Try.underlying3 w0) (trodAll_cons_mk (arg_stays (by kernel_rfl) (of_decide_eq_true (by kernel_rfl)) h1' hg hlt1 (fun x hx => hsp x (by simp [hx]))) (trodAll_cons_mk (arg_stays (by kernel_rfl) (of_decide_eq_true (by kernel_rfl)) h2' hg hlt2 (fun x hx => hsp x (by simp [hx]))) trodAll_mk0)))) (fun _ _ => rfl) (by simp) (ok_one (by kernel_rfl) rfl (okWide_bool_mk Try.underlying4 _))⟩

theorem pforms_over : Rows.pageFormsRow.holds Try.pinned (OpenSpec.ofChange Rows.pageFormsSpec) :=
  OpenClaim.holds_of_wide 3 Try.f3 rfl rfl rfl rfl rfl rfl rfl ⟨rfl, rfl, rfl, rfl, rfl⟩ rfl rfl rfl rfl rfl (by kernel_rfl) Try.func3 (by kernel_rfl)
    (of_decide_eq_true (by kernel_rfl)) (by unfold Func.isWrapper; first | (rw [if_pos (by decide +kernel)]; kernel_rfl) | (rw [if_neg (by decide +kernel)]; exact ⟨rfl, rfl⟩))
    (fun os started H enc _ => pforms_lifted os started H enc)

/-- The statement. -/
theorem pforms_holds : Rows.PageFormsSaid :=
  pforms_over
#print axioms pforms_holds

end Go.Proofs.Ythacfanfhdjmbaa
