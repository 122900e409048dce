/- PageSets, for every input: it returns true, and its arguments read behind the call as they did: Set of the one with Diff of both has the other's cells, and keeps its own Lsn. No condition. -/
import Derived.Test.YthacfanfhdjmbaaPS1
namespace Go.Proofs.Ythacfanfhdjmbaa
open Go.ChangeShapes Go.WideShapes Go.ChangeAt Go.RowKit Go.Deep Go.Maps
set_option linter.unusedSimpArgs false
set_option linter.unusedVariables false

set_option maxRecDepth 100000 in
set_option maxHeartbeats 4000000 in
theorem psets_walk (va vb vi : Value) (la lb : List Int) (li : List Img) (w : World) (hva : IntsV w va la) (hla : la.length ≤ maxLen) (hvb : IntsV w vb lb) (hlb : lb.length ≤ maxLen) (hvi : ImgsV w vi li) (hli : li.length ≤ maxLen) :
    Calls Try.prog 5 #[va, vb, vi] w fun e w' => e = .returned (.bool true) ∧ Only [] w w' := by
  have hla' : la.length ≤ 9223372036854775807 := by unfold maxLen at hla; omega
  have hlb' : lb.length ≤ 9223372036854775807 := by unfold maxLen at hlb; omega
  have hli' : li.length ≤ 9223372036854775807 := by unfold maxLen at hli; omega
  obtain ⟨a0, a1, rfl, -⟩ := id hva
  obtain ⟨b0, b1, rfl, -⟩ := id hvb
  obtain ⟨i0, i1, rfl, -⟩ := id hvi
  have VA := Lib.hid hva
  have VB := Lib.hid hvb
  have VI := Lib.hid hvi
  have hfa := filC_length la 60
  have hfb := filC_length lb 60
  have hia := filC_in (ints_in hva) 60
  have hib := filC_in (ints_in hvb) 60
  clear hva hvb hvi hla hlb hli
  go_enter Try.func5, Try.ntmps5
  go_wp2_with fail
  refine (alive5_any _).mono ?_
  rintro e w1 ⟨rfl, o1⟩
  have HO1 := Lib.hid o1
  clear o1
  by_cases hbig : 2000 < li.length
  · have hbig' : (2000 : Int) < (li.length : Int) := by omega
    go_wp2
    go_ret
    exact ⟨rfl, HO1.out⟩
  have hsm' : ¬ (2000 : Int) < (li.length : Int) := by omega
  have HSM := Lib.hid hbig
  clear hbig
  go_wp2_with fail
  refine (filled_any 1 _ la w1 (VA.out.kept HO1.out (by intro a n c e h; simp)) hla').mono ?_
  rintro e w2 ⟨rfl, o2⟩
  have HO2 := Lib.hid (HO1.out.trans o2 (by simp))
  clear o2
  go_wp2_with fail
  refine (filled_any 2 _ lb w2 (VB.out.kept HO2.out (by intro a n c e h; simp)) hlb').mono ?_
  rintro e w3 ⟨rfl, o3⟩
  have HO3 := Lib.hid (HO2.out.trans o3 (by simp))
  clear o3 hla' hlb' HO1 HO2 VA VB
  obtain ⟨c, hc⟩ : ∃ c, c = filC la 60 := ⟨_, rfl⟩
  obtain ⟨d, hd⟩ : ∃ d, d = filC lb 60 := ⟨_, rfl⟩
  rw [← hc] at hfa hia
  rw [← hd] at hfb hib
  rw [← hc, ← hd]
  have HC := Lib.hid hfa
  have HD := Lib.hid hfb
  have IC := Lib.hid hia
  have ID := Lib.hid hib
  have HL1 : Hid ((1 :: c).length = 61) := Lib.hid (by rw [List.length_cons, hfa])
  have HL2 : Hid ((2 :: d).length = 61) := Lib.hid (by rw [List.length_cons, hfb])
  have HL3 : Hid ((2 :: c).length = 61) := Lib.hid (by rw [List.length_cons, hfa])
  clear hc hd hfa hfb hia hib
  have T1 := trivial
  have T2 := trivial
  go_wp2_with (first
    | (clear T1
       refine wpList_new_page rfl rfl ?_
       intro w4 g4 hb4 hg4 ho4
       have HB4 := Lib.hid hb4
       have HG4 := Lib.hid (Nat.le_trans HO3.out.size hg4)
       have HO4 := Lib.hid (HO3.out.trans ho4 (by simp))
       clear hb4 hg4 ho4)
    | (clear T2
       refine wpList_new_page rfl rfl ?_
       intro w5 g5 hb5 hg5 ho5
       have hne5 : g5 ≠ g4 := by have := HB4.out.lt; omega
       have HB5 := Lib.hid (HB4.out.kept ho5 (by simp))
       have HC5 := Lib.hid hb5
       have HG5 := Lib.hid (Nat.le_trans HO4.out.size hg5)
       have HO5 := Lib.hid (HO4.out.trans ho5 (by simp))
       clear hb5 hg5 ho5)
    | (refine wpList_store_page rfl _ (.tmp 24) rfl g4 (1 :: c) (by rfl) (by rfl) HL1.out _ HB5.out (by rfl) ?_
       intro w6 hb6 ho6
       have HB6 := Lib.hid hb6
       have HC6 := Lib.hid (HC5.out.kept ho6 (by simp; omega))
       have HO6 := Lib.hid (HO5.out.trans ho6 (by simp; exact HG4.out))
       clear hb6 ho6)
    | (refine wpList_store_page rfl _ (.tmp 26) rfl g5 (2 :: d) (by rfl) (by rfl) HL2.out _ HC6.out (by rfl) ?_
       intro w7 hb7 ho7
       have HB7 := Lib.hid (HB6.out.kept ho7 (by simp; omega))
       have HC7 := Lib.hid hb7
       have HO7 := Lib.hid (HO6.out.trans ho7 (by simp; exact HG5.out))
       clear hb7 ho7)
    | (refine wpList_load_page rfl (.tmp 7) rfl g4 (by rfl) (1 :: c) HB7.out HL1.out ?_)
    | (refine wpList_load_page rfl (.tmp 8) rfl g5 (by rfl) (2 :: d) HC7.out HL2.out ?_))
  refine (Diff_any 1 2 c d w7 HC.out HD.out).mono ?_
  rintro e w8 ⟨v8, rfl, h8, o8⟩
  have hm8 := h8.imgs (dif_in IC.out (by omega))
  obtain ⟨va8, vc8, rfl⟩ := h8.shape
  have hlt8 := fun k hk => h8.lt (k := k) hk
  have HB8 := Lib.hid (HB7.out.kept o8 (by simp))
  have HC8 := Lib.hid (HC7.out.kept o8 (by simp))
  have HO8 := Lib.hid (HO7.out.trans o8 (by simp))
  have HM8 := Lib.hid hm8
  have hlen8 := dif_length c d 60
  have HPW : Hid (∀ j p q, (dif c d 60)[j]? = some p → (dif c d 60)[j + 1]? = some q → p.1 < q.1) := Lib.hid (fun j p q h1 h2 => dif_next h1 h2)
  have HME : Hid (∀ p ∈ dif c d 60, ∃ i : Nat, i < 60 ∧ p.1 = (i : Int) ∧ p.2 = c.getD i 0 ∧ c.getD i 0 ≠ d.getD i 0) := Lib.hid (fun p hp => dif_mem hp)
  have HSR := Lib.hid (setR_dif_all c d HC.out HD.out)
  obtain ⟨dl, hdl⟩ : ∃ dl, dl = dif c d 60 := ⟨_, rfl⟩
  rw [← hdl] at HM8 hlen8 HPW HME HSR ⊢
  clear hdl h8 hm8 hlt8 o8 HB7 HC7 HO7 HB6 HC6 HO6 HB5 HC5 HO5 HB4 HO4 HO3
  go_wp2_with (refine wpList_load_page rfl (.tmp 8) rfl g5 (by rfl) (2 :: d) HC8.out HL2.out ?_)
  refine (Set_any 2 d _ dl w8 HD.out HM8.out (by omega)).mono ?_
  rintro e w9 ⟨o9, hs9, -⟩
  obtain rfl := hs9 c HSR.out
  have HB9 := Lib.hid (HB8.out.kept o9 (by simp))
  have HC9 := Lib.hid (HC8.out.kept o9 (by simp))
  have HM9 := Lib.hid (HM8.out.quiet o9)
  have HO9 := Lib.hid (HO8.out.trans o9 (by simp))
  clear o9 hs9 HB8 HC8 HO8 HM8 HSR
  go_simp
  have q1 := iface_ne
  repeat (first
    | (guard_target =~ wpList _ _ _ (List.cons (Oper.mk (some 10) _ _ _ _ _) _) _ _
       refine wpList_new_page rfl rfl ?_
       intro w10 g10 hb10 hg10 ho10
       have hneA : g10 ≠ g4 := by have := HB9.out.lt; omega
       have hneB : g10 ≠ g5 := by have := HC9.out.lt; omega
       have HB10 := Lib.hid (HB9.out.kept ho10 (by simp))
       have HC10 := Lib.hid (HC9.out.kept ho10 (by simp))
       have HX10 := Lib.hid ho10
       have HD10 := Lib.hid hb10
       have HG10 := Lib.hid (Nat.le_trans HO9.out.size hg10)
       have HGA := Lib.hid hg10
       have HO10 := Lib.hid (HO9.out.trans ho10 (by simp))
       clear hb10 hg10 ho10)
    | (guard_target =~ wpList _ _ _ (List.cons (Oper.mk none (Op.store 27 (.tmp 10) _) _ _ _ _) _) _ _
       refine wpList_store_page rfl _ _ rfl g10 (2 :: c) (by rfl) (by rfl) HL3.out _ HD10.out (by rfl) ?_
       intro w11 hb11 ho11
       have HB11 := Lib.hid (HB10.out.kept ho11 (by simp; omega))
       have HC11 := Lib.hid (HC10.out.kept ho11 (by simp; omega))
       have HD11 := Lib.hid hb11
       have HM11 := Lib.hid (HM9.out.quiet (HX10.out.trans ho11 (by simp; exact HGA.out)))
       have HO11 := Lib.hid (HO10.out.trans ho11 (by simp; exact HG10.out))
       have hcl : w11.cell? ⟨g10, 0, none⟩ = some (.int .i64 2) := hb11.cell rfl
       clear hb11 ho11)
    | (guard_target =~ Oper.wp _ (Oper.mk (some 40) _ _ _ _ _) _ _ _ _; refine wp_page_mid (.tmp 39) rfl g10 (by rfl) 2 c HD11.out HC.out ?_; simp only [Act.put, List.setIfInBounds_toArray, List.set_cons_zero, List.set_cons_succ])
    | (guard_target =~ Oper.wp _ (Oper.mk (some 42) _ _ _ _ _) _ _ _ _; refine wp_page_mid (.tmp 41) rfl g4 (by rfl) 1 c HB11.out HC.out ?_; simp only [Act.put, List.setIfInBounds_toArray, List.set_cons_zero, List.set_cons_succ])
    | (guard_target =~ Oper.wp _ (Oper.mk (some 43) _ _ _ _ _) _ _ _ _; refine wp_cells_same (.tmp 40) (.tmp 42) rfl c (by rfl) (by rfl) HC.out ?_; simp only [Act.put, List.setIfInBounds_toArray, List.set_cons_zero, List.set_cons_succ])
    | go_values | go_skip | go_guarded | go_step | go_upon)
  clear HB9 HC9 HM9 HO9 HB10 HC10 HD10 HO10 HX10 hcl
  have HVI := Lib.hid (VI.out.quiet HO11.out)
  go_loopw [12, 13, 52] (fun _ _ i wr => ∃ k : Nat, k ≤ dl.length ∧ i = .int .i64 k ∧ Only [] w11 wr) (fun _ _ i _ => dl.length - (intOf i).toNat)
  case atStart => exact ⟨0, by omega, rfl, Only.refl [] _⟩
  case round =>
    obtain ⟨k, hk, rfl, ho⟩ := hrel
    by_cases hlt : k < dl.length
    · have hkl : dl[k]? = some dl[k] := List.getElem?_eq_getElem hlt
      obtain ⟨⟨hi0, hi1⟩, b, off, cap1, e1, hc1, hc2⟩ := (HM11.out.quiet ho).at_ hkl
      cases e1
      obtain ⟨i, hi60, hx1, hx2, hne⟩ := HME.out _ (List.mem_of_getElem? hkl)
      obtain ⟨y, hy⟩ : ∃ y, y = d.getD i 0 := ⟨_, rfl⟩
      obtain ⟨x, hx⟩ : ∃ x, x = c.getD i 0 := ⟨_, rfl⟩
      have hdi : d[i]? = some y := by rw [hy, List.getD_eq_getElem?_getD, List.getElem?_eq_getElem (by rw [HD.out]; exact hi60)]; rfl
      rw [← hy, ← hx] at hne
      rw [← hx] at hx2
      rw [hx1] at hc1
      rw [hx2] at hc2
      have HCQ := Lib.hid (HC11.out.kept ho (by simp))
      have HKL := Lib.hid hkl
      have HX1 := Lib.hid hx1
      have HO := Lib.hid ho
      clear hi0 hi1 hx1 hx2 hy hx hkl ho
      go_wp2_with fail
      have q0 := cell_at 0 (heap_new wr (.cells #[.int .i64 (i : Int), .int .i64 x] 46))
      have q1 := cell_at 1 (heap_new wr (.cells #[.int .i64 (i : Int), .int .i64 x] 46))
      have q2 : Only [] wr (wr.alloc (.cells #[.int .i64 (i : Int), .int .i64 x] 46)).drew := ((Only.refl [] wr).alloc _).drew
      obtain ⟨w12, hw12⟩ : ∃ w12, w12 = (wr.alloc (.cells #[.int .i64 (i : Int), .int .i64 x] 46)) := ⟨_, rfl⟩
      rw [← hw12] at q0 q1 q2 ⊢
      have q0' : w12.drew.cell? ⟨wr.heap.size, 0, none⟩ = some (.int .i64 (i : Int)) := q0
      have q1' : w12.drew.cell? ⟨wr.heap.size, 1, none⟩ = some (.int .i64 x) := q1
      have q3 : w12.drew.cell? ⟨g5, 1 + i, none⟩ = some (.int .i64 y) := (HCQ.out.kept q2 (by simp)).cell (by rw [Nat.add_comm, List.getElem?_cons_succ]; exact hdi)
      have HOE := Lib.hid (HO.out.trans q2 (by simp))
      have HMQ := Lib.hid ((HM11.out.quiet HO.out).quiet q2)
      clear q0 q1 q2 hw12 hc1 hc2 HCQ hdi
      obtain ⟨N, hN⟩ : ∃ N, N = wr.heap.size := ⟨_, rfl⟩
      rw [← hN] at q0' q1' ⊢
      clear hN
      have n1 : decide ((i : Int) < 0) = false := by simp
      have n2 : decide ((60 : Int) ≤ (i : Int)) = false := by rw [decide_eq_false_iff_not]; omega
      have n5 : (y == x) = false := by rw [beq_eq_false_iff_ne]; exact fun e => hne e.symm
      have i1 : (i : Int) < 60 := by omega
      cases k with
      | zero =>
        refine wp_region_held_drew (S := fun w' => w'.cell? ⟨N, 0, none⟩ = some (.int .i64 (i : Int)) ∧ w'.cell? ⟨N, 1, none⟩ = some (.int .i64 x) ∧ w'.cell? ⟨g5, 1 + i, none⟩ = some (.int .i64 y)) (by kernel_rfl) ⟨q0', q1', q3⟩ (fun hH => ?_)
        clear q0' q1' q3
        refine take_list (i := 0) (v := ?_) rfl (by kernel_rfl) (by kernel_rfl) (by kernel_rfl) (fun _ _ _ h => h) (Or.inl ⟨by rfl, ?_⟩) hH ?_
        rotate_left
        · ((intro w hSw; (try dsimp only at hSw); go_simp); try with_reducible rfl)
        simp only [Act.put, List.setIfInBounds_toArray, List.set_cons_zero, List.set_cons_succ]
        refine take_list (i := 1) (v := ?_) rfl (by kernel_rfl) (by kernel_rfl) (by kernel_rfl) (fun _ _ _ h => h) (Or.inl ⟨by rfl, ?_⟩) hH ?_
        rotate_left
        · ((intro w hSw; (try dsimp only at hSw); go_simp); try with_reducible rfl)
        simp only [Act.put, List.setIfInBounds_toArray, List.set_cons_zero, List.set_cons_succ]
        refine take_list (i := 2) (v := ?_) rfl (by kernel_rfl) (by kernel_rfl) (by kernel_rfl) (fun _ _ _ h => h) (Or.inl ⟨by rfl, ?_⟩) hH ?_
        rotate_left
        · ((intro w hSw; (try dsimp only at hSw); go_simp); try with_reducible rfl)
        simp only [Act.put, List.setIfInBounds_toArray, List.set_cons_zero, List.set_cons_succ]
        refine take_list (i := 3) (v := ?_) rfl (by kernel_rfl) (by kernel_rfl) (by kernel_rfl) (fun _ _ _ h => h) (Or.inl ⟨by rfl, ?_⟩) hH ?_
        rotate_left
        · ((intro w hSw; (try dsimp only at hSw); go_simp); try with_reducible rfl)
        simp only [Act.put, List.setIfInBounds_toArray, List.set_cons_zero, List.set_cons_succ]
        refine take_list (i := 4) (v := ?_) rfl (by kernel_rfl) (by kernel_rfl) (by kernel_rfl) (fun _ _ _ h => h) (Or.inl ⟨by rfl, ?_⟩) hH ?_
        rotate_left
        · ((intro w hSw; (try dsimp only at hSw); go_simp); try with_reducible rfl)
        simp only [Act.put, List.setIfInBounds_toArray, List.set_cons_zero, List.set_cons_succ]
        refine take_list (i := 5) (v := ?_) rfl (by kernel_rfl) (by kernel_rfl) (by kernel_rfl) (fun _ _ _ h => h) (Or.inl ⟨by rfl, ?_⟩) hH ?_
        rotate_left
        · ((intro w hSw; (try dsimp only at hSw); go_simp); try with_reducible rfl)
        simp only [Act.put, List.setIfInBounds_toArray, List.set_cons_zero, List.set_cons_succ]
        refine take_list (i := 6) (v := ?_) rfl (by kernel_rfl) (by kernel_rfl) (by kernel_rfl) (fun _ _ _ h => h) (Or.inl ⟨by rfl, ?_⟩) hH ?_
        rotate_left
        · ((intro w hSw; (try dsimp only at hSw); go_simp); try with_reducible rfl)
        simp only [Act.put, List.setIfInBounds_toArray, List.set_cons_zero, List.set_cons_succ]
        refine take_list (i := 7) (v := ?_) rfl (by kernel_rfl) (by kernel_rfl) (by kernel_rfl) (fun _ _ _ h => h) (Or.inl ⟨by rfl, ?_⟩) hH ?_
        rotate_left
        · ((intro w hSw; (try dsimp only at hSw); go_simp); try with_reducible rfl)
        simp only [Act.put, List.setIfInBounds_toArray, List.set_cons_zero, List.set_cons_succ]
        refine take_list (i := 8) (v := ?_) rfl (by kernel_rfl) (by kernel_rfl) (by kernel_rfl) (fun _ _ _ h => h) (Or.inl ⟨by rfl, ?_⟩) hH ?_
        rotate_left
        · ((intro w hSw; (try dsimp only at hSw); go_simp); try with_reducible rfl)
        simp only [Act.put, List.setIfInBounds_toArray, List.set_cons_zero, List.set_cons_succ]
        refine take_list (i := 9) (v := ?_) rfl (by kernel_rfl) (by kernel_rfl) (by kernel_rfl) (fun _ _ _ h => h) (Or.inl ⟨by rfl, ?_⟩) hH ?_
        rotate_left
        · ((intro w hSw; (try dsimp only at hSw); go_simp); try with_reducible rfl)
        simp only [Act.put, List.setIfInBounds_toArray, List.set_cons_zero, List.set_cons_succ]
        refine take_list (i := 10) (v := ?_) rfl (by kernel_rfl) (by kernel_rfl) (by kernel_rfl) (fun _ _ _ h => h) (Or.inl ⟨by rfl, ?_⟩) hH ?_
        rotate_left
        · ((intro w hSw; (try dsimp only at hSw); go_simp); try with_reducible rfl)
        simp only [Act.put, List.setIfInBounds_toArray, List.set_cons_zero, List.set_cons_succ]
        refine take_list (i := 11) (v := ?_) rfl (by kernel_rfl) (by kernel_rfl) (by kernel_rfl) (fun _ _ _ h => h) (Or.inl ⟨by rfl, ?_⟩) hH ?_
        rotate_left
        · ((intro w hSw; (try dsimp only at hSw); go_simp); try with_reducible rfl)
        simp only [Act.put, List.setIfInBounds_toArray, List.set_cons_zero, List.set_cons_succ]
        refine take_list (i := 12) (v := undef) rfl (by kernel_rfl) (by kernel_rfl) (by kernel_rfl) (fun _ _ _ h => h) (Or.inr ⟨by rfl, rfl⟩) hH ?_
        simp only [Act.put, List.setIfInBounds_toArray, List.set_cons_zero, List.set_cons_succ]
        refine take_list (i := 13) (v := undef) rfl (by kernel_rfl) (by kernel_rfl) (by kernel_rfl) (fun _ _ _ h => h) (Or.inr ⟨by rfl, rfl⟩) hH ?_
        simp only [Act.put, List.setIfInBounds_toArray, List.set_cons_zero, List.set_cons_succ]
        refine take_list (i := 14) (v := undef) rfl (by kernel_rfl) (by kernel_rfl) (by kernel_rfl) (fun _ _ _ h => h) (Or.inr ⟨by rfl, rfl⟩) hH ?_
        simp only [Act.put, List.setIfInBounds_toArray, List.set_cons_zero, List.set_cons_succ]
        refine take_list (i := 15) (v := undef) rfl (by kernel_rfl) (by kernel_rfl) (by kernel_rfl) (fun _ _ _ h => h) (Or.inr ⟨by rfl, rfl⟩) hH ?_
        simp only [Act.put, List.setIfInBounds_toArray, List.set_cons_zero, List.set_cons_succ]
        refine take_list (i := 16) (v := undef) rfl (by kernel_rfl) (by kernel_rfl) (by kernel_rfl) (fun _ _ _ h => h) (Or.inr ⟨by rfl, rfl⟩) hH ?_
        simp only [Act.put, List.setIfInBounds_toArray, List.set_cons_zero, List.set_cons_succ]
        refine take_list (i := 17) (v := undef) rfl (by kernel_rfl) (by kernel_rfl) (by kernel_rfl) (fun _ _ _ h => h) (Or.inr ⟨by rfl, rfl⟩) hH ?_
        simp only [Act.put, List.setIfInBounds_toArray, List.set_cons_zero, List.set_cons_succ]
        refine take_list (i := 18) (v := undef) rfl (by kernel_rfl) (by kernel_rfl) (by kernel_rfl) (fun _ _ _ h => h) (Or.inr ⟨by rfl, rfl⟩) hH ?_
        simp only [Act.put, List.setIfInBounds_toArray, List.set_cons_zero, List.set_cons_succ]
        refine take_list (i := 19) (v := undef) rfl (by kernel_rfl) (by kernel_rfl) (by kernel_rfl) (fun _ _ _ h => h) (Or.inr ⟨by rfl, rfl⟩) hH ?_
        simp only [Act.put, List.setIfInBounds_toArray, List.set_cons_zero, List.set_cons_succ]
        refine take_list (i := 20) (v := undef) rfl (by kernel_rfl) (by kernel_rfl) (by kernel_rfl) (fun _ _ _ h => h) (Or.inr ⟨by rfl, rfl⟩) hH ?_
        simp only [Act.put, List.setIfInBounds_toArray, List.set_cons_zero, List.set_cons_succ]
        refine take_list (i := 21) (v := ?_) rfl (by kernel_rfl) (by kernel_rfl) (by kernel_rfl) (fun _ _ _ h => h) (Or.inl ⟨by rfl, ?_⟩) hH ?_
        rotate_left
        · ((intro w hSw; (try dsimp only at hSw); go_simp); try with_reducible rfl)
        simp only [Act.put, List.setIfInBounds_toArray, List.set_cons_zero, List.set_cons_succ]
        refine take_list (i := 22) (v := ?_) rfl (by kernel_rfl) (by kernel_rfl) (by kernel_rfl) (fun _ _ _ h => h) (Or.inl ⟨by rfl, ?_⟩) hH ?_
        rotate_left
        · ((intro w hSw; (try dsimp only at hSw); go_simp); try with_reducible rfl)
        simp only [Act.put, List.setIfInBounds_toArray, List.set_cons_zero, List.set_cons_succ]
        refine take_list (i := 23) (v := ?_) rfl (by kernel_rfl) (by kernel_rfl) (by kernel_rfl) (fun _ _ _ h => h) (Or.inl ⟨by rfl, ?_⟩) hH ?_
        rotate_left
        · ((intro w hSw; (try dsimp only at hSw); go_simp); try with_reducible rfl)
        simp only [Act.put, List.setIfInBounds_toArray, List.set_cons_zero, List.set_cons_succ]
        refine take_list (i := 24) (v := ?_) rfl (by kernel_rfl) (by kernel_rfl) (by kernel_rfl) (fun _ _ _ h => h) (Or.inl ⟨by rfl, ?_⟩) hH ?_
        rotate_left
        · ((intro w hSw; (try dsimp only at hSw); go_simp); try with_reducible rfl)
        simp only [Act.put, List.setIfInBounds_toArray, List.set_cons_zero, List.set_cons_succ]
        refine take_list (i := 25) (v := ?_) rfl (by kernel_rfl) (by kernel_rfl) (by kernel_rfl) (fun _ _ _ h => h) (Or.inl ⟨by rfl, ?_⟩) hH ?_
        rotate_left
        · ((intro w hSw; (try dsimp only at hSw); go_simp); try with_reducible rfl)
        simp only [Act.put, List.setIfInBounds_toArray, List.set_cons_zero, List.set_cons_succ]
        refine take_list (i := 26) (v := ?_) rfl (by kernel_rfl) (by kernel_rfl) (by kernel_rfl) (fun _ _ _ h => h) (Or.inl ⟨by rfl, ?_⟩) hH ?_
        rotate_left
        · ((intro w hSw; (try dsimp only at hSw); go_simp); try with_reducible rfl)
        simp only [Act.put, List.setIfInBounds_toArray, List.set_cons_zero, List.set_cons_succ]
        refine take_list (i := 27) (v := ?_) rfl (by kernel_rfl) (by kernel_rfl) (by kernel_rfl) (fun _ _ _ h => h) (Or.inl ⟨by rfl, ?_⟩) hH ?_
        rotate_left
        · ((intro w hSw; (try dsimp only at hSw); go_simp); try with_reducible rfl)
        simp only [Act.put, List.setIfInBounds_toArray, List.set_cons_zero, List.set_cons_succ]
        refine take_list (i := 28) (v := ?_) rfl (by kernel_rfl) (by kernel_rfl) (by kernel_rfl) (fun _ _ _ h => h) (Or.inl ⟨by rfl, ?_⟩) hH ?_
        rotate_left
        · ((intro w hSw; (try dsimp only at hSw); go_simp); try with_reducible rfl)
        simp only [Act.put, List.setIfInBounds_toArray, List.set_cons_zero, List.set_cons_succ]
        refine take_list (i := 29) (v := ?_) rfl (by kernel_rfl) (by kernel_rfl) (by kernel_rfl) (fun _ _ _ h => h) (Or.inl ⟨by rfl, ?_⟩) hH ?_
        rotate_left
        · ((intro w hSw; (try dsimp only at hSw); go_simp); try with_reducible rfl)
        simp only [Act.put, List.setIfInBounds_toArray, List.set_cons_zero, List.set_cons_succ]
        refine take_list (i := 30) (v := ?_) rfl (by kernel_rfl) (by kernel_rfl) (by kernel_rfl) (fun _ _ _ h => h) (Or.inl ⟨by rfl, ?_⟩) hH ?_
        rotate_left
        · ((intro w hSw; (try dsimp only at hSw); go_simp); try with_reducible rfl)
        simp only [Act.put, List.setIfInBounds_toArray, List.set_cons_zero, List.set_cons_succ]
        refine take_list (i := 31) (v := ?_) rfl (by kernel_rfl) (by kernel_rfl) (by kernel_rfl) (fun _ _ _ h => h) (Or.inl ⟨by rfl, ?_⟩) hH ?_
        rotate_left
        · ((intro w hSw; (try dsimp only at hSw); go_simp); try with_reducible rfl)
        simp only [Act.put, List.setIfInBounds_toArray, List.set_cons_zero, List.set_cons_succ]
        refine take_list (i := 32) (v := ?_) rfl (by kernel_rfl) (by kernel_rfl) (by kernel_rfl) (fun _ _ _ h => h) (Or.inl ⟨by rfl, ?_⟩) hH ?_
        rotate_left
        · ((intro w hSw; (try dsimp only at hSw); go_simp); try with_reducible rfl)
        simp only [Act.put, List.setIfInBounds_toArray, List.set_cons_zero, List.set_cons_succ]
        refine wpAnyH_done (by kernel_rfl) ?_ _
        clear hH n1 n2 n5
        go_wp2_with fail
        go_roundw
        case rel => exact ⟨0 + 1, by omega, by go_num, HOE.out⟩
        case measure => simp [intOf]; omega
      | succ j =>
        obtain ⟨p, hp⟩ : ∃ p, dl[j]? = some p := ⟨_, List.getElem?_eq_getElem (by omega)⟩
        have hlt2 := HPW.out j p _ hp HKL.out
        rw [HX1.out] at hlt2
        obtain ⟨-, b', off', cap', e1, hp1, -⟩ := HMQ.out.at_ hp
        cases e1
        obtain ⟨z, hz⟩ : ∃ z, z = p.1 := ⟨_, rfl⟩
        rw [← hz] at hp1 hlt2
        have n4 : decide ((i : Int) ≤ z) = false := by rw [decide_eq_false_iff_not]; omega
        have n3 : decide (0 < (j : Int) + 1) = true := by rw [decide_eq_true_eq]; omega
        have ecast : ((j + 1 : Nat) : Int) = (j : Int) + 1 := by omega
        rw [ecast]
        clear ecast
        have j1 : (j : Int) < (dl.length : Int) := by omega
        have j0 : (0 : Int) ≤ (j : Int) := by omega
        have hw : IntKind.i64.wrap (j : Int) = (j : Int) := IntWalk.i64_in _ (by omega)
        refine wp_region_held_drew (S := fun w' => w'.cell? ⟨N, 0, none⟩ = some (.int .i64 (i : Int)) ∧ w'.cell? ⟨N, 1, none⟩ = some (.int .i64 x) ∧ w'.cell? ⟨g5, 1 + i, none⟩ = some (.int .i64 y) ∧ w'.cell? ⟨b, off + j * 2, none⟩ = some (.int .i64 z)) (by kernel_rfl) ⟨q0', q1', q3, hp1⟩ (fun hH => ?_)
        clear q0' q1' q3 hp1 hp hz
        refine take_list (i := 0) (v := ?_) rfl (by kernel_rfl) (by kernel_rfl) (by kernel_rfl) (fun _ _ _ h => h) (Or.inl ⟨by rfl, ?_⟩) hH ?_
        rotate_left
        · ((intro w hSw; (try dsimp only at hSw); go_simp); try with_reducible rfl)
        simp only [Act.put, List.setIfInBounds_toArray, List.set_cons_zero, List.set_cons_succ]
        refine take_list (i := 1) (v := ?_) rfl (by kernel_rfl) (by kernel_rfl) (by kernel_rfl) (fun _ _ _ h => h) (Or.inl ⟨by rfl, ?_⟩) hH ?_
        rotate_left
        · ((intro w hSw; (try dsimp only at hSw); go_simp); try with_reducible rfl)
        simp only [Act.put, List.setIfInBounds_toArray, List.set_cons_zero, List.set_cons_succ]
        refine take_list (i := 2) (v := ?_) rfl (by kernel_rfl) (by kernel_rfl) (by kernel_rfl) (fun _ _ _ h => h) (Or.inl ⟨by rfl, ?_⟩) hH ?_
        rotate_left
        · ((intro w hSw; (try dsimp only at hSw); go_simp); try with_reducible rfl)
        simp only [Act.put, List.setIfInBounds_toArray, List.set_cons_zero, List.set_cons_succ]
        refine take_list (i := 3) (v := ?_) rfl (by kernel_rfl) (by kernel_rfl) (by kernel_rfl) (fun _ _ _ h => h) (Or.inl ⟨by rfl, ?_⟩) hH ?_
        rotate_left
        · ((intro w hSw; (try dsimp only at hSw); go_simp); try with_reducible rfl)
        simp only [Act.put, List.setIfInBounds_toArray, List.set_cons_zero, List.set_cons_succ]
        refine take_list (i := 4) (v := ?_) rfl (by kernel_rfl) (by kernel_rfl) (by kernel_rfl) (fun _ _ _ h => h) (Or.inl ⟨by rfl, ?_⟩) hH ?_
        rotate_left
        · ((intro w hSw; (try dsimp only at hSw); go_simp); try with_reducible rfl)
        simp only [Act.put, List.setIfInBounds_toArray, List.set_cons_zero, List.set_cons_succ]
        refine take_list (i := 5) (v := ?_) rfl (by kernel_rfl) (by kernel_rfl) (by kernel_rfl) (fun _ _ _ h => h) (Or.inl ⟨by rfl, ?_⟩) hH ?_
        rotate_left
        · ((intro w hSw; (try dsimp only at hSw); go_simp); try with_reducible rfl)
        simp only [Act.put, List.setIfInBounds_toArray, List.set_cons_zero, List.set_cons_succ]
        refine take_list (i := 6) (v := ?_) rfl (by kernel_rfl) (by kernel_rfl) (by kernel_rfl) (fun _ _ _ h => h) (Or.inl ⟨by rfl, ?_⟩) hH ?_
        rotate_left
        · ((intro w hSw; (try dsimp only at hSw); go_simp); try with_reducible rfl)
        simp only [Act.put, List.setIfInBounds_toArray, List.set_cons_zero, List.set_cons_succ]
        refine take_list (i := 7) (v := ?_) rfl (by kernel_rfl) (by kernel_rfl) (by kernel_rfl) (fun _ _ _ h => h) (Or.inl ⟨by rfl, ?_⟩) hH ?_
        rotate_left
        · ((intro w hSw; (try dsimp only at hSw); go_simp); try with_reducible rfl)
        simp only [Act.put, List.setIfInBounds_toArray, List.set_cons_zero, List.set_cons_succ]
        refine take_list (i := 8) (v := ?_) rfl (by kernel_rfl) (by kernel_rfl) (by kernel_rfl) (fun _ _ _ h => h) (Or.inl ⟨by rfl, ?_⟩) hH ?_
        rotate_left
        · ((intro w hSw; (try dsimp only at hSw); go_simp); try with_reducible rfl)
        simp only [Act.put, List.setIfInBounds_toArray, List.set_cons_zero, List.set_cons_succ]
        refine take_list (i := 9) (v := ?_) rfl (by kernel_rfl) (by kernel_rfl) (by kernel_rfl) (fun _ _ _ h => h) (Or.inl ⟨by rfl, ?_⟩) hH ?_
        rotate_left
        · ((intro w hSw; (try dsimp only at hSw); go_simp); try with_reducible rfl)
        simp only [Act.put, List.setIfInBounds_toArray, List.set_cons_zero, List.set_cons_succ]
        refine take_list (i := 10) (v := ?_) rfl (by kernel_rfl) (by kernel_rfl) (by kernel_rfl) (fun _ _ _ h => h) (Or.inl ⟨by rfl, ?_⟩) hH ?_
        rotate_left
        · ((intro w hSw; (try dsimp only at hSw); go_simp); try with_reducible rfl)
        simp only [Act.put, List.setIfInBounds_toArray, List.set_cons_zero, List.set_cons_succ]
        refine take_list (i := 11) (v := ?_) rfl (by kernel_rfl) (by kernel_rfl) (by kernel_rfl) (fun _ _ _ h => h) (Or.inl ⟨by rfl, ?_⟩) hH ?_
        rotate_left
        · ((intro w hSw; (try dsimp only at hSw); go_simp); try with_reducible rfl)
        simp only [Act.put, List.setIfInBounds_toArray, List.set_cons_zero, List.set_cons_succ]
        refine take_list (i := 12) (v := ?_) rfl (by kernel_rfl) (by kernel_rfl) (by kernel_rfl) (fun _ _ _ h => h) (Or.inl ⟨by rfl, ?_⟩) hH ?_
        rotate_left
        · ((intro w hSw; (try dsimp only at hSw); go_simp); try with_reducible rfl)
        simp only [Act.put, List.setIfInBounds_toArray, List.set_cons_zero, List.set_cons_succ]
        refine take_list (i := 13) (v := ?_) rfl (by kernel_rfl) (by kernel_rfl) (by kernel_rfl) (fun _ _ _ h => h) (Or.inl ⟨by rfl, ?_⟩) hH ?_
        rotate_left
        · ((intro w hSw; (try dsimp only at hSw); go_simp); try with_reducible rfl)
        simp only [Act.put, List.setIfInBounds_toArray, List.set_cons_zero, List.set_cons_succ]
        refine take_list (i := 14) (v := ?_) rfl (by kernel_rfl) (by kernel_rfl) (by kernel_rfl) (fun _ _ _ h => h) (Or.inl ⟨by rfl, ?_⟩) hH ?_
        rotate_left
        · ((intro w hSw; (try dsimp only at hSw); go_simp); try with_reducible rfl)
        simp only [Act.put, List.setIfInBounds_toArray, List.set_cons_zero, List.set_cons_succ]
        refine take_list (i := 15) (v := ?_) rfl (by kernel_rfl) (by kernel_rfl) (by kernel_rfl) (fun _ _ _ h => h) (Or.inl ⟨by rfl, ?_⟩) hH ?_
        rotate_left
        · ((intro w hSw; (try dsimp only at hSw); go_simp); try with_reducible rfl)
        simp only [Act.put, List.setIfInBounds_toArray, List.set_cons_zero, List.set_cons_succ]
        refine take_list (i := 16) (v := ?_) rfl (by kernel_rfl) (by kernel_rfl) (by kernel_rfl) (fun _ _ _ h => h) (Or.inl ⟨by rfl, ?_⟩) hH ?_
        rotate_left
        · ((intro w hSw; (try dsimp only at hSw); go_simp); try with_reducible rfl)
        simp only [Act.put, List.setIfInBounds_toArray, List.set_cons_zero, List.set_cons_succ]
        refine take_list (i := 17) (v := ?_) rfl (by kernel_rfl) (by kernel_rfl) (by kernel_rfl) (fun _ _ _ h => h) (Or.inl ⟨by rfl, ?_⟩) hH ?_
        rotate_left
        · ((intro w hSw; (try dsimp only at hSw); go_simp); try with_reducible rfl)
        simp only [Act.put, List.setIfInBounds_toArray, List.set_cons_zero, List.set_cons_succ]
        refine take_list (i := 18) (v := ?_) rfl (by kernel_rfl) (by kernel_rfl) (by kernel_rfl) (fun _ _ _ h => h) (Or.inl ⟨by rfl, ?_⟩) hH ?_
        rotate_left
        · ((intro w hSw; (try dsimp only at hSw); go_simp); try with_reducible rfl)
        simp only [Act.put, List.setIfInBounds_toArray, List.set_cons_zero, List.set_cons_succ]
        refine take_list (i := 19) (v := ?_) rfl (by kernel_rfl) (by kernel_rfl) (by kernel_rfl) (fun _ _ _ h => h) (Or.inl ⟨by rfl, ?_⟩) hH ?_
        rotate_left
        · ((intro w hSw; (try dsimp only at hSw); go_simp); try with_reducible rfl)
        simp only [Act.put, List.setIfInBounds_toArray, List.set_cons_zero, List.set_cons_succ]
        refine take_list (i := 20) (v := ?_) rfl (by kernel_rfl) (by kernel_rfl) (by kernel_rfl) (fun _ _ _ h => h) (Or.inl ⟨by rfl, ?_⟩) hH ?_
        rotate_left
        · ((intro w hSw; (try dsimp only at hSw); go_simp); try with_reducible rfl)
        simp only [Act.put, List.setIfInBounds_toArray, List.set_cons_zero, List.set_cons_succ]
        refine take_list (i := 21) (v := ?_) rfl (by kernel_rfl) (by kernel_rfl) (by kernel_rfl) (fun _ _ _ h => h) (Or.inl ⟨by rfl, ?_⟩) hH ?_
        rotate_left
        · ((intro w hSw; (try dsimp only at hSw); go_simp); try with_reducible rfl)
        simp only [Act.put, List.setIfInBounds_toArray, List.set_cons_zero, List.set_cons_succ]
        refine take_list (i := 22) (v := ?_) rfl (by kernel_rfl) (by kernel_rfl) (by kernel_rfl) (fun _ _ _ h => h) (Or.inl ⟨by rfl, ?_⟩) hH ?_
        rotate_left
        · ((intro w hSw; (try dsimp only at hSw); go_simp); try with_reducible rfl)
        simp only [Act.put, List.setIfInBounds_toArray, List.set_cons_zero, List.set_cons_succ]
        refine take_list (i := 23) (v := ?_) rfl (by kernel_rfl) (by kernel_rfl) (by kernel_rfl) (fun _ _ _ h => h) (Or.inl ⟨by rfl, ?_⟩) hH ?_
        rotate_left
        · ((intro w hSw; (try dsimp only at hSw); go_simp); try with_reducible rfl)
        simp only [Act.put, List.setIfInBounds_toArray, List.set_cons_zero, List.set_cons_succ]
        refine take_list (i := 24) (v := ?_) rfl (by kernel_rfl) (by kernel_rfl) (by kernel_rfl) (fun _ _ _ h => h) (Or.inl ⟨by rfl, ?_⟩) hH ?_
        rotate_left
        · ((intro w hSw; (try dsimp only at hSw); go_simp); try with_reducible rfl)
        simp only [Act.put, List.setIfInBounds_toArray, List.set_cons_zero, List.set_cons_succ]
        refine take_list (i := 25) (v := ?_) rfl (by kernel_rfl) (by kernel_rfl) (by kernel_rfl) (fun _ _ _ h => h) (Or.inl ⟨by rfl, ?_⟩) hH ?_
        rotate_left
        · ((intro w hSw; (try dsimp only at hSw); go_simp); try with_reducible rfl)
        simp only [Act.put, List.setIfInBounds_toArray, List.set_cons_zero, List.set_cons_succ]
        refine take_list (i := 26) (v := ?_) rfl (by kernel_rfl) (by kernel_rfl) (by kernel_rfl) (fun _ _ _ h => h) (Or.inl ⟨by rfl, ?_⟩) hH ?_
        rotate_left
        · ((intro w hSw; (try dsimp only at hSw); go_simp); try with_reducible rfl)
        simp only [Act.put, List.setIfInBounds_toArray, List.set_cons_zero, List.set_cons_succ]
        refine take_list (i := 27) (v := ?_) rfl (by kernel_rfl) (by kernel_rfl) (by kernel_rfl) (fun _ _ _ h => h) (Or.inl ⟨by rfl, ?_⟩) hH ?_
        rotate_left
        · ((intro w hSw; (try dsimp only at hSw); go_simp); try with_reducible rfl)
        simp only [Act.put, List.setIfInBounds_toArray, List.set_cons_zero, List.set_cons_succ]
        refine take_list (i := 28) (v := ?_) rfl (by kernel_rfl) (by kernel_rfl) (by kernel_rfl) (fun _ _ _ h => h) (Or.inl ⟨by rfl, ?_⟩) hH ?_
        rotate_left
        · ((intro w hSw; (try dsimp only at hSw); go_simp); try with_reducible rfl)
        simp only [Act.put, List.setIfInBounds_toArray, List.set_cons_zero, List.set_cons_succ]
        refine take_list (i := 29) (v := ?_) rfl (by kernel_rfl) (by kernel_rfl) (by kernel_rfl) (fun _ _ _ h => h) (Or.inl ⟨by rfl, ?_⟩) hH ?_
        rotate_left
        · ((intro w hSw; (try dsimp only at hSw); go_simp); try with_reducible rfl)
        simp only [Act.put, List.setIfInBounds_toArray, List.set_cons_zero, List.set_cons_succ]
        refine take_list (i := 30) (v := ?_) rfl (by kernel_rfl) (by kernel_rfl) (by kernel_rfl) (fun _ _ _ h => h) (Or.inl ⟨by rfl, ?_⟩) hH ?_
        rotate_left
        · ((intro w hSw; (try dsimp only at hSw); go_simp); try with_reducible rfl)
        simp only [Act.put, List.setIfInBounds_toArray, List.set_cons_zero, List.set_cons_succ]
        refine take_list (i := 31) (v := ?_) rfl (by kernel_rfl) (by kernel_rfl) (by kernel_rfl) (fun _ _ _ h => h) (Or.inl ⟨by rfl, ?_⟩) hH ?_
        rotate_left
        · ((intro w hSw; (try dsimp only at hSw); go_simp); try with_reducible rfl)
        simp only [Act.put, List.setIfInBounds_toArray, List.set_cons_zero, List.set_cons_succ]
        refine take_list (i := 32) (v := ?_) rfl (by kernel_rfl) (by kernel_rfl) (by kernel_rfl) (fun _ _ _ h => h) (Or.inl ⟨by rfl, ?_⟩) hH ?_
        rotate_left
        · ((intro w hSw; (try dsimp only at hSw); go_simp); try with_reducible rfl)
        simp only [Act.put, List.setIfInBounds_toArray, List.set_cons_zero, List.set_cons_succ]
        refine wpAnyH_done (by kernel_rfl) ?_ _
        clear hH n1 n2 n3 n4 n5 hw
        go_wp2_with fail
        go_roundw
        case rel => exact ⟨j + 1 + 1, by omega, by go_num, HOE.out⟩
        case measure => simp [intOf]; omega
    · obtain rfl : k = dl.length := by omega
      clear hlt hk
      have HO := Lib.hid ho
      clear ho HM11 HME HPW hlen8
      have HB12 := Lib.hid (HB11.out.kept HO.out (by simp))
      have HVJ := Lib.hid (HVI.out.quiet HO.out)
      have HOX := Lib.hid (HO11.out.trans HO.out (by simp))
      clear HO HB11 HC11 HD11 HVI HO11
      go_wp2_with (refine wpList_load_page rfl (.tmp 7) rfl g4 (by rfl) (1 :: c) HB12.out HL1.out ?_)
      refine (Set_any 1 c _ li wr HC.out HVJ.out (by omega)).mono ?_
      rintro e w13 ⟨o13, hs13, hn13⟩
      have HB13 := Lib.hid (HB12.out.kept o13 (by simp))
      have HVK := Lib.hid (HVJ.out.quiet o13)
      have HO13 := Lib.hid (HOX.out.trans o13 (by simp))
      clear o13 HB12 HVJ HOX
      have q1 := iface_nil
      have q2 : ∀ w, (binOp .eql 31 (err 1) (err 1)).run Try.prog w = .ok (.bool true) w := fun w => by kernel_rfl
      cases hset : setR c li with
      | none =>
        obtain rfl := hn13 hset
        have HST := Lib.hid hset
        have HFL : Hid (blankP.length = 60) := Lib.hid rfl
        have HL4 : Hid ((0 :: blankP).length = 61) := Lib.hid rfl
        have HEQ : Hid (∀ e, setR c li = setR e [] → False) := Lib.hid (fun e h => by rw [HST.out] at h; simp [setR] at h)
        clear hs13 hn13 hset
        go_simp
        repeat (first
          | (guard_target =~ wpList _ _ _ (List.cons (Oper.mk (some 14) _ _ _ _ _) _) _ _
             refine wpList_new_page rfl rfl ?_
             intro w14 g14 hb14 hg14 ho14
             have hneC : g14 ≠ g4 := by have := HB13.out.lt; omega
             have HB14 := Lib.hid (HB13.out.kept ho14 (by simp))
             have HE14 := Lib.hid hb14
             have HVL := Lib.hid (HVK.out.quiet ho14)
             have HG14 := Lib.hid (Nat.le_trans HO13.out.size hg14)
             have HX14 := Lib.hid hg14
             have HO14 := Lib.hid (HO13.out.trans ho14 (by simp))
             have HY14 := Lib.hid ho14
             clear hb14 hg14 ho14)
          | (guard_target =~ wpList _ _ _ (List.cons (Oper.mk none (Op.store 27 (.tmp 14) _) _ _ _ _) _) _ _
             refine wpList_store_page rfl _ _ rfl g14 (0 :: blankP) (by rfl) (by rfl) HL4.out _ HE14.out (by rfl) ?_
             intro w15 hb15 ho15
             have HB15 := Lib.hid (HB14.out.kept ho15 (by simp; omega))
             have HE15 := Lib.hid hb15
             have HVM := Lib.hid (HVK.out.quiet (HY14.out.trans ho15 (by simp; exact HX14.out)))
             have HO15 := Lib.hid (HO14.out.trans ho15 (by simp; exact HG14.out))
             clear hb15 ho15)
          | (guard_target =~ wpList _ _ _ (List.cons (Oper.mk (some 97) _ _ _ _ _) _) _ _
             refine wpList_load_page rfl (.tmp 7) rfl g4 (by rfl) (1 :: c) HB15.out HL1.out ?_)
          | (guard_target =~ wpList _ _ _ (List.cons (Oper.mk (some 15) _ _ _ _ _) _) _ _
             refine wpList_new_page rfl rfl ?_
             intro w16 g16 hb16 hg16 ho16
             have hneD : g16 ≠ g14 := by have := HE15.out.lt; omega
             have HE16 := Lib.hid (HE15.out.kept ho16 (by simp))
             have HF16 := Lib.hid hb16
             have HX16 := Lib.hid hg16
             have HY16 := Lib.hid ho16
             have HG16 := Lib.hid (Nat.le_trans HO15.out.size hg16)
             have HO16 := Lib.hid (HO15.out.trans ho16 (by simp))
             clear hb16 hg16 ho16)
          | (guard_target =~ wpList _ _ _ (List.cons (Oper.mk none (Op.store 27 (.tmp 15) _) _ _ _ _) _) _ _
             refine wpList_store_page rfl _ _ rfl g16 (1 :: c) (by rfl) (by rfl) HL1.out _ HF16.out (by rfl) ?_
             intro w17 hb17 ho17
             have HE17 := Lib.hid (HE16.out.kept ho17 (by simp; omega))
             have HF17 := Lib.hid hb17
             have HVN := Lib.hid (HVM.out.quiet (HY16.out.trans ho17 (by simp; exact HX16.out)))
             have HO17 := Lib.hid (HO16.out.trans ho17 (by simp; exact HG16.out))
             clear hb17 ho17)
          | go_values | go_skip | go_guarded | go_step | go_upon)
        have hG16 : w.heap.size ≤ g16 := HG16.out
        clear HE16 HF16 HVM HO16 HB15 HE15 HO15 HB14 HE14 HVL HO14 HB13 HVK HO13
        go_loopw [17, 100] (fun _ i wr => ∃ (k : Nat) (e : List Int), k ≤ li.length ∧ i = .int .i64 k ∧ e.length = 60 ∧ setR c li = setR e (li.drop k) ∧ PB wr g16 27 (1 :: e) ∧ PB wr g14 27 (0 :: blankP) ∧ Only [] w wr) (fun _ i _ => li.length - (intOf i).toNat)
        case atStart => exact ⟨0, c, by omega, rfl, HC.out, rfl, HF17.out, HE17.out, HO17.out⟩
        case round =>
          clear HE17 HF17 HO17 HVN
          obtain ⟨k, e, hk, rfl, he, hsr, hb, hb', ho⟩ := hrel
          by_cases hlt : k < li.length
          · have hkl : li[k]? = some li[k] := List.getElem?_eq_getElem hlt
            obtain ⟨⟨hi0, hi1⟩, b, off, cap1, e1, hc1, hc2⟩ := (VI.out.quiet ho).at_ hkl
            cases e1
            have hdrop : li.drop k = li[k] :: li.drop (k + 1) := List.drop_eq_getElem_cons hlt
            rw [hdrop] at hsr
            obtain ⟨p, hp⟩ : ∃ p, p = li[k] := ⟨_, rfl⟩
            rw [← hp] at hi0 hi1 hc1 hc2 hsr
            obtain ⟨x, y⟩ := p
            simp only at hi0 hi1 hc1 hc2 hsr
            have HS := Lib.hid hsr
            have z2 : Only [] wr (wr.alloc (.cells #[.int .i64 x, .int .i64 y] 46)) := (Only.refl [] wr).alloc _
            have HBW := Lib.hid (hb.kept z2 (by simp))
            have HBV := Lib.hid (hb'.kept z2 (by simp))
            have HOW := Lib.hid (ho.trans z2 (by simp))
            clear hsr hb hb' ho z2 hkl hdrop hp
            by_cases hin : 0 ≤ x ∧ x < 60
            · have hs2 : setR c li = setR (e.set x.toNat y) (li.drop (k + 1)) := by
                rw [HS.out, setR]
                simp only [if_pos hin]
              have HS2 := Lib.hid hs2
              obtain ⟨i, rfl⟩ : ∃ i : Nat, x = (i : Int) := ⟨x.toNat, by omega⟩
              have hi60 : i < 60 := by omega
              have hcx : ∃ v, (wr.alloc (.cells #[.int .i64 (i : Int), .int .i64 y] 46)).cell? ⟨g16, 1 + i, none⟩ = some v := ⟨_, HBW.out.cell (z := e[i]'(by omega)) (by rw [Nat.add_comm, List.getElem?_cons_succ, List.getElem?_eq_getElem])⟩
              obtain ⟨v2, hcx⟩ := hcx
              have hfx : (wr.alloc (.cells #[.int .i64 (i : Int), .int .i64 y] 46)).frozen? ⟨g16, 1 + i, none⟩ = false := HBW.out.free _
              have hb5 : PB ((wr.alloc (.cells #[.int .i64 (i : Int), .int .i64 y] 46)).setCell ⟨g16, 1 + i, none⟩ (.int .i64 y)) g16 27 (1 :: e.set i y) := by
                have e2 : (1 :: e).set (1 + i) y = 1 :: e.set i y := by rw [Nat.add_comm, List.set_cons_succ]
                rw [← e2]
                exact HBW.out.set (1 + i) y
              have ho5 : Only [] w ((wr.alloc (.cells #[.int .i64 (i : Int), .int .i64 y] 46)).setCell ⟨g16, 1 + i, none⟩ (.int .i64 y)) := HOW.out.setCell (Or.inr hG16) _
              have hb6 : PB ((wr.alloc (.cells #[.int .i64 (i : Int), .int .i64 y] 46)).setCell ⟨g16, 1 + i, none⟩ (.int .i64 y)) g14 27 (0 :: blankP) := HBV.out.kept ((Only.refl [g16] _).setCell (.inl (by simp)) _) (by simp; omega)
              have HB5 := Lib.hid hb5
              have HB6 := Lib.hid hb6
              have HO5 := Lib.hid ho5
              clear hb5 hb6 ho5 hs2 hin HS HBW HBV HOW
              go_wp2_with fail
              go_roundw
              case rel => exact ⟨k + 1, e.set i y, by omega, by go_num, by simpa using he, HS2.out, HB5.out, HB6.out, HO5.out⟩
              case measure => simp [intOf]; omega
            · have hs2 : setR c li = none := by
                rw [HS.out, setR]
                simp only [if_neg hin]
              clear hs2 HS HBW
              rcases (show x < 0 ∨ (0 ≤ x ∧ 59 < x) by omega) with hx | ⟨hx0, hx⟩
              · have hxd : decide (x < 0) = true := by rw [decide_eq_true_eq]; exact hx
                clear hin
                go_simp
                repeat (first
                  | (guard_target =~ Oper.wp _ (Oper.mk (some 116) _ _ _ _ _) _ _ _ _; refine wp_page_load (.tmp 14) rfl g14 (by rfl) (0 :: blankP) HBV.out HL4.out ?_; simp only [Act.put, List.setIfInBounds_toArray, List.set_cons_zero, List.set_cons_succ])
                  | (guard_target =~ Oper.wp _ (Oper.mk (some 117) _ _ _ _ _) _ _ _ _; refine wp_page_built [] rfl (0 :: blankP) built_none ?_; simp only [Act.put, List.setIfInBounds_toArray, List.set_cons_zero, List.set_cons_succ])
                  | (guard_target =~ Oper.wp _ (Oper.mk (some 118) _ _ _ _ _) _ _ _ _; refine wp_page_eqlr true (.tmp 116) (.tmp 117) rfl 0 0 blankP blankP (by rfl) (by rfl) HFL.out HFL.out (by simp) ?_; simp only [Act.put, List.setIfInBounds_toArray, List.set_cons_zero, List.set_cons_succ])
                  | go_values | go_skip | go_guarded | go_step | go_upon)
                go_ret
                exact ⟨rfl, HOW.out⟩
              · have hxd : decide (x < 0) = false := by rw [decide_eq_false_iff_not]; omega
                clear hin
                go_simp
                repeat (first
                  | (guard_target =~ Oper.wp _ (Oper.mk (some 116) _ _ _ _ _) _ _ _ _; refine wp_page_load (.tmp 14) rfl g14 (by rfl) (0 :: blankP) HBV.out HL4.out ?_; simp only [Act.put, List.setIfInBounds_toArray, List.set_cons_zero, List.set_cons_succ])
                  | (guard_target =~ Oper.wp _ (Oper.mk (some 117) _ _ _ _ _) _ _ _ _; refine wp_page_built [] rfl (0 :: blankP) built_none ?_; simp only [Act.put, List.setIfInBounds_toArray, List.set_cons_zero, List.set_cons_succ])
                  | (guard_target =~ Oper.wp _ (Oper.mk (some 118) _ _ _ _ _) _ _ _ _; refine wp_page_eqlr true (.tmp 116) (.tmp 117) rfl 0 0 blankP blankP (by rfl) (by rfl) HFL.out HFL.out (by simp) ?_; simp only [Act.put, List.setIfInBounds_toArray, List.set_cons_zero, List.set_cons_succ])
                  | go_values | go_skip | go_guarded | go_step | go_upon)
                go_ret
                exact ⟨rfl, HOW.out⟩
          · obtain rfl : k = li.length := by omega
            rw [List.drop_length] at hsr
            exfalso
            rw [HST.out] at hsr
            simp [setR] at hsr
      | some f =>
        obtain rfl := hs13 f hset
        have HST := Lib.hid hset
        have HFL := Lib.hid ((setR_length li c f hset).trans HC.out)
        have HL4 : Hid ((1 :: f).length = 61) := Lib.hid (by rw [List.length_cons, HFL.out])
        clear hs13 hn13 hset
        go_simp
        repeat (first
          | (guard_target =~ wpList _ _ _ (List.cons (Oper.mk (some 14) _ _ _ _ _) _) _ _
             refine wpList_new_page rfl rfl ?_
             intro w14 g14 hb14 hg14 ho14
             have hneC : g14 ≠ g4 := by have := HB13.out.lt; omega
             have HB14 := Lib.hid (HB13.out.kept ho14 (by simp))
             have HE14 := Lib.hid hb14
             have HVL := Lib.hid (HVK.out.quiet ho14)
             have HG14 := Lib.hid (Nat.le_trans HO13.out.size hg14)
             have HX14 := Lib.hid hg14
             have HO14 := Lib.hid (HO13.out.trans ho14 (by simp))
             have HY14 := Lib.hid ho14
             clear hb14 hg14 ho14)
          | (guard_target =~ wpList _ _ _ (List.cons (Oper.mk none (Op.store 27 (.tmp 14) _) _ _ _ _) _) _ _
             refine wpList_store_page rfl _ _ rfl g14 (1 :: f) (by rfl) (by rfl) HL4.out _ HE14.out (by rfl) ?_
             intro w15 hb15 ho15
             have HB15 := Lib.hid (HB14.out.kept ho15 (by simp; omega))
             have HE15 := Lib.hid hb15
             have HVM := Lib.hid (HVK.out.quiet (HY14.out.trans ho15 (by simp; exact HX14.out)))
             have HO15 := Lib.hid (HO14.out.trans ho15 (by simp; exact HG14.out))
             clear hb15 ho15)
          | (guard_target =~ wpList _ _ _ (List.cons (Oper.mk (some 97) _ _ _ _ _) _) _ _
             refine wpList_load_page rfl (.tmp 7) rfl g4 (by rfl) (1 :: c) HB15.out HL1.out ?_)
          | (guard_target =~ wpList _ _ _ (List.cons (Oper.mk (some 15) _ _ _ _ _) _) _ _
             refine wpList_new_page rfl rfl ?_
             intro w16 g16 hb16 hg16 ho16
             have hneD : g16 ≠ g14 := by have := HE15.out.lt; omega
             have HE16 := Lib.hid (HE15.out.kept ho16 (by simp))
             have HF16 := Lib.hid hb16
             have HX16 := Lib.hid hg16
             have HY16 := Lib.hid ho16
             have HG16 := Lib.hid (Nat.le_trans HO15.out.size hg16)
             have HO16 := Lib.hid (HO15.out.trans ho16 (by simp))
             clear hb16 hg16 ho16)
          | (guard_target =~ wpList _ _ _ (List.cons (Oper.mk none (Op.store 27 (.tmp 15) _) _ _ _ _) _) _ _
             refine wpList_store_page rfl _ _ rfl g16 (1 :: c) (by rfl) (by rfl) HL1.out _ HF16.out (by rfl) ?_
             intro w17 hb17 ho17
             have HE17 := Lib.hid (HE16.out.kept ho17 (by simp; omega))
             have HF17 := Lib.hid hb17
             have HVN := Lib.hid (HVM.out.quiet (HY16.out.trans ho17 (by simp; exact HX16.out)))
             have HO17 := Lib.hid (HO16.out.trans ho17 (by simp; exact HG16.out))
             clear hb17 ho17)
          | go_values | go_skip | go_guarded | go_step | go_upon)
        have hG16 : w.heap.size ≤ g16 := HG16.out
        clear HE16 HF16 HVM HO16 HB15 HE15 HO15 HB14 HE14 HVL HO14 HB13 HVK HO13
        go_loopw [17, 100] (fun _ i wr => ∃ (k : Nat) (e : List Int), k ≤ li.length ∧ i = .int .i64 k ∧ e.length = 60 ∧ setR c li = setR e (li.drop k) ∧ PB wr g16 27 (1 :: e) ∧ PB wr g14 27 (1 :: f) ∧ Only [] w wr) (fun _ i _ => li.length - (intOf i).toNat)
        case atStart => exact ⟨0, c, by omega, rfl, HC.out, rfl, HF17.out, HE17.out, HO17.out⟩
        case round =>
          clear HE17 HF17 HO17 HVN
          obtain ⟨k, e, hk, rfl, he, hsr, hb, hb', ho⟩ := hrel
          by_cases hlt : k < li.length
          · have hkl : li[k]? = some li[k] := List.getElem?_eq_getElem hlt
            obtain ⟨⟨hi0, hi1⟩, b, off, cap1, e1, hc1, hc2⟩ := (VI.out.quiet ho).at_ hkl
            cases e1
            have hdrop : li.drop k = li[k] :: li.drop (k + 1) := List.drop_eq_getElem_cons hlt
            rw [hdrop] at hsr
            obtain ⟨p, hp⟩ : ∃ p, p = li[k] := ⟨_, rfl⟩
            rw [← hp] at hi0 hi1 hc1 hc2 hsr
            obtain ⟨x, y⟩ := p
            simp only at hi0 hi1 hc1 hc2 hsr
            have HS := Lib.hid hsr
            have z2 : Only [] wr (wr.alloc (.cells #[.int .i64 x, .int .i64 y] 46)) := (Only.refl [] wr).alloc _
            have HBW := Lib.hid (hb.kept z2 (by simp))
            have HBV := Lib.hid (hb'.kept z2 (by simp))
            have HOW := Lib.hid (ho.trans z2 (by simp))
            clear hsr hb hb' ho z2 hkl hdrop hp
            by_cases hin : 0 ≤ x ∧ x < 60
            · have hs2 : setR c li = setR (e.set x.toNat y) (li.drop (k + 1)) := by
                rw [HS.out, setR]
                simp only [if_pos hin]
              have HS2 := Lib.hid hs2
              obtain ⟨i, rfl⟩ : ∃ i : Nat, x = (i : Int) := ⟨x.toNat, by omega⟩
              have hi60 : i < 60 := by omega
              have hcx : ∃ v, (wr.alloc (.cells #[.int .i64 (i : Int), .int .i64 y] 46)).cell? ⟨g16, 1 + i, none⟩ = some v := ⟨_, HBW.out.cell (z := e[i]'(by omega)) (by rw [Nat.add_comm, List.getElem?_cons_succ, List.getElem?_eq_getElem])⟩
              obtain ⟨v2, hcx⟩ := hcx
              have hfx : (wr.alloc (.cells #[.int .i64 (i : Int), .int .i64 y] 46)).frozen? ⟨g16, 1 + i, none⟩ = false := HBW.out.free _
              have hb5 : PB ((wr.alloc (.cells #[.int .i64 (i : Int), .int .i64 y] 46)).setCell ⟨g16, 1 + i, none⟩ (.int .i64 y)) g16 27 (1 :: e.set i y) := by
                have e2 : (1 :: e).set (1 + i) y = 1 :: e.set i y := by rw [Nat.add_comm, List.set_cons_succ]
                rw [← e2]
                exact HBW.out.set (1 + i) y
              have ho5 : Only [] w ((wr.alloc (.cells #[.int .i64 (i : Int), .int .i64 y] 46)).setCell ⟨g16, 1 + i, none⟩ (.int .i64 y)) := HOW.out.setCell (Or.inr hG16) _
              have hb6 : PB ((wr.alloc (.cells #[.int .i64 (i : Int), .int .i64 y] 46)).setCell ⟨g16, 1 + i, none⟩ (.int .i64 y)) g14 27 (1 :: f) := HBV.out.kept ((Only.refl [g16] _).setCell (.inl (by simp)) _) (by simp; omega)
              have HB5 := Lib.hid hb5
              have HB6 := Lib.hid hb6
              have HO5 := Lib.hid ho5
              clear hb5 hb6 ho5 hs2 hin HS HBW HBV HOW
              go_wp2_with fail
              go_roundw
              case rel => exact ⟨k + 1, e.set i y, by omega, by go_num, by simpa using he, HS2.out, HB5.out, HB6.out, HO5.out⟩
              case measure => simp [intOf]; omega
            · have hs2 : setR c li = none := by
                rw [HS.out, setR]
                simp only [if_neg hin]
              exfalso
              rw [HST.out] at hs2
              simp at hs2
          · obtain rfl : k = li.length := by omega
            rw [List.drop_length] at hsr
            rw [HST.out, setR] at hsr
            cases hsr
            have HBX := Lib.hid hb
            have HBY := Lib.hid hb'
            have HOX := Lib.hid ho
            clear hb hb' ho
            go_simp
            repeat (first
              | (guard_target =~ Oper.wp _ (Oper.mk (some 130) _ _ _ _ _) _ _ _ _; refine wp_page_load (.tmp 14) rfl g14 (by rfl) (1 :: f) HBY.out HL4.out ?_; simp only [Act.put, List.setIfInBounds_toArray, List.set_cons_zero, List.set_cons_succ])
              | (guard_target =~ Oper.wp _ (Oper.mk (some 131) _ _ _ _ _) _ _ _ _; refine wp_page_load (.tmp 15) rfl g16 (by rfl) (1 :: f) HBX.out HL4.out ?_; simp only [Act.put, List.setIfInBounds_toArray, List.set_cons_zero, List.set_cons_succ])
              | (guard_target =~ Oper.wp _ (Oper.mk (some 132) _ _ _ _ _) _ _ _ _; refine wp_page_eqlr true (.tmp 130) (.tmp 131) rfl 1 1 f f (by rfl) (by rfl) HFL.out HFL.out (by simp) ?_; simp only [Act.put, List.setIfInBounds_toArray, List.set_cons_zero, List.set_cons_succ])
              | go_values | go_skip | go_guarded | go_step | go_upon)
            go_ret
            exact ⟨rfl, HOX.out⟩

set_option maxRecDepth 100000 in
theorem psets_lifted (os : Os) (started : os.Started) (H : Type) (enc : TypeId × Value → H) :
    ReturnsInHanded {} Try.checked os 5 .any (Rows.pageSetsSpec.pre6 enc Try.prog Try.f5 Rows.pageSetsRow.domain false) (Rows.pageSetsSpec.post enc Try.prog Try.f5 false true false false) := by
  refine returnsInHanded_of_change (C := Try.checked) law_own started (by kernel_rfl) Try.func5
    (ChangeSpec.witness6 (enc := enc) (C := Try.checked) false ⟨#[], #[.slice none 0 0, .slice none 0 0, .slice none 0 0], []⟩ 8 (by kernel_rfl) (by kernel_rfl) (by kernel_rfl) (by kernel_rfl)) ?_
  intro W base args ds gs before hval0 hW hcnd _
  have hval : ∀ (j : Nat) t v, Try.f5.params[j]? = some t → args[j]? = some v → Value.okWide Try.prog W .any base t v := hval0
  have hW' := hW
  obtain ⟨p, q, hA0, hV, rfl, hfz, hnd⟩ := hW
  have hA : DataW.TrodAll enc Try.prog W 0 (fun _ => true) true Try.f5.params.toList args.toList ds p := hA0
  rw [Try.params5] at hA hval
  obtain ⟨v0, vs0, d0, ds0, p0, q0, hargs, rfl, rfl, h0, r0⟩ := trodAll_cons hA
  obtain ⟨v1, vs1, d1, ds1, p1, q1, rfl, rfl, rfl, h1, r1⟩ := trodAll_cons r0
  obtain ⟨v2, vs2, d2, ds2, p2, q2, rfl, rfl, rfl, h2, r2⟩ := trodAll_cons r1
  obtain ⟨rfl, rfl, rfl⟩ := trodAll_nil r2
  obtain rfl : args = #[v0, v1, v2] := by cases args; simp_all
  obtain ⟨rfl, rfl⟩ := trodVars_none hV
  have h0' := h0
  obtain ⟨sa0, sl0, sc0, rfl⟩ := okWide_slice Try.underlying22 (hval 0 22 v0 rfl rfl)
  obtain ⟨fuel0, hf0⟩ := h0
  obtain ⟨l0, hs0, _, hl0⟩ := open_nums (v := .slice sa0 sl0 sc0) hf0
  have hlt0 : ∀ x ∈ p0, x.block < W.heap.size := fun x hx => hW'.lt x (by simp [hx])
  have h1' := h1
  obtain ⟨sa1, sl1, sc1, rfl⟩ := okWide_slice Try.underlying22 (hval 1 22 v1 rfl rfl)
  obtain ⟨fuel1, hf1⟩ := h1
  obtain ⟨l1, hs1, _, hl1⟩ := open_nums (v := .slice sa1 sl1 sc1) hf1
  have hlt1 : ∀ x ∈ p1, x.block < W.heap.size := fun x hx => hW'.lt x (by simp [hx])
  have h2' := h2
  obtain ⟨sa2, sl2, sc2, rfl⟩ := okWide_slice Try.underlying42 (hval 2 42 v2 rfl rfl)
  obtain ⟨fuel2, hf2⟩ := h2
  obtain ⟨l2, hs2, hl2⟩ := open_images (v := .slice sa2 sl2 sc2) hf2
  have hlt2 : ∀ x ∈ p2, x.block < W.heap.size := fun x hx => hW'.lt x (by simp [hx])
  clear hA0 hval0
  refine (psets_walk _ _ _ l0 l1 l2 W hs0 hl0 hs1 hl1 hs2 hl2).mono fun e W' ⟨he, hg⟩ => ?_
  subst he
  exact ⟨_, rfl, post_quiet (pa := (p0 ++ (p1 ++ (p2 ++ [])))) (pv := []) hW' hg (fun _ _ _ => (trodAll_cons_mk (shut_bool Try.underlying4 _) trodAll_mk0)) (fun sp hsp => (trodAll_cons_mk (arg_stays (by kernel_rfl) (of_decide_eq_true (by kernel_rfl)) h0' hg hlt0 (fun x hx => hsp x (by simp [hx]))) (trodAll_cons_mk (arg_stays (by kernel_rfl) (of_decide_eq_true (by kernel_rfl)) h1' hg hlt1 (fun x hx => hsp x (by simp [hx]))) (trodAll_cons_mk (arg_stays (by kernel_rfl) (of_decide_eq_true (by kernel_rfl)) h2' hg hlt2 (fun x hx => hsp x (by simp [hx]))) trodAll_mk0)))) (fun _ _ => rfl) (by simp) (ok_one (by kernel_rfl) rfl (okWide_bool_mk Try.underlying4 _))⟩

theorem psets_over : Rows.pageSetsRow.holds Try.pinned (OpenSpec.ofChange Rows.pageSetsSpec) :=
  OpenClaim.holds_of_wide 5 Try.f5 rfl rfl rfl rfl rfl rfl rfl ⟨rfl, rfl, rfl, rfl, rfl⟩ rfl rfl rfl rfl rfl (by kernel_rfl) Try.func5 (by kernel_rfl)
    (of_decide_eq_true (by kernel_rfl)) (by unfold Func.isWrapper; first | (rw [if_pos (by decide +kernel)]; kernel_rfl) | (rw [if_neg (by decide +kernel)]; exact ⟨rfl, rfl⟩))
    (fun os started H enc _ => psets_lifted os started H enc)

/-- The statement. -/
theorem psets_holds : Rows.PageSetsSaid :=
  psets_over
#print axioms psets_holds
end Go.Proofs.Ythacfanfhdjmbaa
