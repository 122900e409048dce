/- page: Encode. -/
import Derived.Test.YthacfanfhdjmbaaP6
namespace Go.Proofs.Ythacfanfhdjmbaa
open Go.RowKit Go.Maps
set_option linter.unusedSimpArgs false
set_option linter.unusedVariables false

set_option maxRecDepth 100000 in
theorem Encode_any (n : Int) (c : List Int) (w : World) (hp : PForm n c) :
    Calls Try.prog 14 #[.agg (ivA (n :: c))] w fun e w' => ∃ g, e = .returned (.slice (some ⟨g, 0, none⟩) 512 512) ∧ BBlk w' g (penc n c) ∧ w.heap.size ≤ g ∧ Only [] w w' := by
  have HP := Lib.hid hp
  clear hp
  go_enter Try.func14, Try.ntmps14
  go_wp2_with (refine wpList_box_page rfl _ rfl (n :: c) (by rfl) ?_; intro w1 g1 hb1 hg1 ho1)
  have ho2 : Only [] w1 w1.drew := (Only.refl [] w1).drew
  have HO2 := Lib.hid (ho1.trans ho2 (by simp))
  have hb2 := hb1.kept ho2 (by simp)
  refine wp_region_held_drew (S := fun w' => PB w' g1 27 (n :: c) ∧ w'.cell? ⟨g1, 0, none⟩ = some (.int .i64 n)) (by kernel_rfl) ⟨hb2, hb2.cell rfl⟩ (fun hH => ?_)
  clear hb1 hg1 ho1 ho2 hb2
  generalize w1.drew = w2 at HO2 hH ⊢
  refine take_list (i := 0) (v := ?_) rfl (by kernel_rfl) (by kernel_rfl) (by kernel_rfl) (fun _ _ _ h => h) (Or.inl ⟨by rfl, ?_⟩) hH ?_
  rotate_left
  · ((intro w hSw; (try dsimp only at hSw); go_simp); try with_reducible rfl)
  simp only [Act.put, List.setIfInBounds_toArray, List.set_cons_zero, List.set_cons_succ]
  refine take_list (i := 1) (v := .int .i64 n) rfl (by kernel_rfl) (by kernel_rfl) (by kernel_rfl) (fun _ _ _ h => h) (Or.inl ⟨by rfl, ?_⟩) hH ?_
  · rintro w ⟨hw1, hw2⟩
    clear hw1
    go_simp
  simp only [Act.put, List.setIfInBounds_toArray, List.set_cons_zero, List.set_cons_succ]
  refine take_list (i := 4) (v := ?_) rfl (by kernel_rfl) (by kernel_rfl) (by kernel_rfl) (fun _ _ _ h => h) (Or.inl ⟨by rfl, ?_⟩) hH ?_
  rotate_left
  · ((intro w hSw; (try dsimp only at hSw); go_simp); try with_reducible rfl)
  simp only [Act.put, List.setIfInBounds_toArray, List.set_cons_zero, List.set_cons_succ]
  refine take_list (i := 5) (v := .agg (ivA c)) rfl (by kernel_rfl) (by kernel_rfl) (by kernel_rfl) (fun _ _ _ h => h) (Or.inl ⟨by rfl, ?_⟩) hH ?_
  · rintro w ⟨hw1, hw2⟩
    simp [execOp, Act.eval, Instr.loadAt, Instr.sureAddr, run_load_mid hw1 HP.out.len, Result.andThen]
  simp only [Act.put, List.setIfInBounds_toArray, List.set_cons_zero, List.set_cons_succ]
  refine wpAnyH_ready (rs := [2]) (by kernel_rfl) (by simp) ?_
  refine ready_list rfl (fun K hK => ?_)
  go_simp
  have e3 := (Only.refl [] w2).alloc (.cells #[.int .i64 n] 3)
  have B3 := Lib.hid (hH.1.kept e3 (by simp))
  have N3 := ints_one' w2 n (v := .slice (some ⟨w2.heap.size, 0, none⟩) 1 1) rfl (by have := HP.out.num; exact WalkArith.wf_i64 (by omega))
  have O3 := Lib.hid (HO2.out.trans e3 (by simp))
  clear hH
  obtain ⟨w3, hw3⟩ : ∃ w3, w3 = w2.alloc (.cells #[.int .i64 n] 3) := ⟨_, rfl⟩
  rw [← hw3] at e3 B3 N3 O3 ⊢
  have N3 := Lib.hid N3
  clear hw3 e3 HO2
  refine hK.out _ _ ⟨B3.out, B3.out.cell rfl⟩ (fun hH => ?_)
  clear hK K
  refine wpAnyH_ready (rs := [3]) (by kernel_rfl) (by simp) ?_
  refine ready_list rfl (fun K hK => ?_)
  go_simp
  refine (Put_any _ [] _ [n] w3 (bytes_nil w3 0) N3.out (by simp) (by simp)).mono ?_
  rintro e w4 ⟨a4, c4, rfl, h4, o4⟩
  have en : ([] : Sec) ++ nums [n] = num n := by simp [nums]
  rw [en] at h4
  have V4 := Lib.hid h4
  have B4 := Lib.hid (B3.out.kept o4 (by simp))
  have O4 := Lib.hid (O3.out.trans o4 (by simp))
  clear hH en h4 o4 N3 B3 O3
  refine hK.out _ _ ⟨B4.out, B4.out.cell rfl⟩ (fun hH => ?_)
  clear hK K
  refine wpAnyH_ready (rs := [6]) (by kernel_rfl) (by simp) ?_
  refine ready_list rfl (fun K hK => ?_)
  go_simp
  refine (putCells_any c w4 HP.out.len HP.out.cells).mono ?_
  rintro e w5 ⟨v5, rfl, h5, o5⟩
  obtain ⟨a5, c5, rfl, -⟩ := h5.shape
  have V5 := Lib.hid h5
  have V4' := Lib.hid (V4.out.quiet o5)
  have B5 := Lib.hid (B4.out.kept o5 (by simp))
  have O5 := Lib.hid (O4.out.trans o5 (by simp))
  clear hH h5 o5 V4 B4 O4
  refine hK.out _ _ ⟨B5.out, B5.out.cell rfl⟩ (fun hH => ?_)
  clear hK K
  refine wpAnyH_ready (rs := [7]) (by kernel_rfl) (by simp) ?_
  refine ready_list rfl (fun K hK => ?_)
  go_simp
  have hpl := pin_length HP.out
  have e6 := (Only.refl [] w5).alloc (.cells #[.slice a4 (nums [n]).length c4, .slice a5 (cellsB c).length c5] 23)
  have en : (([] : Sec).length + (nums [n]).length) = (nums [n]).length := by simp
  have V4 := V4'.out.bytes
  rw [en] at V4
  have P6 := parts_made2 V4 V5.out.bytes (v := .slice (some ⟨w5.heap.size, 0, none⟩) 2 2) rfl
  have B6 := Lib.hid (B5.out.kept e6 (by simp))
  have O6 := Lib.hid (O5.out.trans e6 (by simp))
  clear hH
  obtain ⟨w6, hw6⟩ : ∃ w6, w6 = w5.alloc (.cells #[.slice a4 (nums [n]).length c4, .slice a5 (cellsB c).length c5] 23) := ⟨_, rfl⟩
  rw [← hw6] at e6 P6 B6 O6 ⊢
  have P6 := Lib.hid P6
  clear hw6 e6 V4 V4' V5 B5 O5 en
  refine hK.out _ _ ⟨B6.out, B6.out.cell rfl⟩ (fun hH => ?_)
  clear hK K
  refine wpAnyH_ready (rs := [8]) (by kernel_rfl) (by simp) ?_
  refine ready_list rfl (fun K hK => ?_)
  go_simp
  have e1 : total [num n, cellsB c] = (pin n c).length := by rw [total_flatten]; simp [pin]
  have e2 : [num n, cellsB c].flatten = pin n c := by simp [pin]
  refine (Box_any 512 _ [num n, cellsB c] w6 (by omega) (by omega) P6.out (by simp) (fun l hl => ?_) (by rw [e1]; omega)).mono ?_
  · have h1 : (num n).length ≤ (pin n c).length := by simp [pin]
    have h2 : (cellsB c).length ≤ (pin n c).length := by simp [pin]
    simp at hl
    rcases hl with rfl | rfl <;> omega
  rintro e w7 ⟨g7, rfl, h7, hg7, o7⟩
  rw [e2] at h7
  have h7' : BBlk w7 g7 (penc n c) := h7
  have X7 := Lib.hid h7'
  have B7 := Lib.hid (B6.out.kept o7 (by simp))
  have hsz7 := Nat.le_trans O6.out.size hg7
  have O7 := Lib.hid (O6.out.trans o7 (by simp))
  clear hH h7 h7' o7 P6 B6 O6 e1 e2 hpl hg7
  refine hK.out _ _ ⟨B7.out, B7.out.cell rfl⟩ (fun hH => ?_)
  clear hK K
  refine take_list (i := 9) (v := ?_) rfl (by kernel_rfl) (by kernel_rfl) (by kernel_rfl) (fun _ _ _ h => h) (Or.inl ⟨by rfl, ?_⟩) hH ?_
  rotate_left
  · ((intro w hSw; (try dsimp only at hSw); go_simp); try with_reducible rfl)
  simp only [Act.put, List.setIfInBounds_toArray, List.set_cons_zero, List.set_cons_succ]
  refine take_list (i := 10) (v := ?_) rfl (by kernel_rfl) (by kernel_rfl) (by kernel_rfl) (fun _ _ _ h => h) (Or.inl ⟨by rfl, ?_⟩) hH ?_
  rotate_left
  · ((intro w hSw; (try dsimp only at hSw); go_simp); try with_reducible rfl)
  simp only [Act.put, List.setIfInBounds_toArray, List.set_cons_zero, List.set_cons_succ]
  refine take_list (i := 11) (v := ?_) rfl (by kernel_rfl) (by kernel_rfl) (by kernel_rfl) (fun _ _ _ h => h) (Or.inl ⟨by rfl, ?_⟩) hH ?_
  rotate_left
  · ((intro w hSw; (try dsimp only at hSw); go_simp); try with_reducible rfl)
  simp only [Act.put, List.setIfInBounds_toArray, List.set_cons_zero, List.set_cons_succ]
  refine take_list (i := 12) (v := ?_) rfl (by kernel_rfl) (by kernel_rfl) (by kernel_rfl) (fun _ _ _ h => h) (Or.inl ⟨by rfl, ?_⟩) hH ?_
  rotate_left
  · ((intro w hSw; (try dsimp only at hSw); go_simp); try with_reducible rfl)
  simp only [Act.put, List.setIfInBounds_toArray, List.set_cons_zero, List.set_cons_succ]
  refine take_list (i := 13) (v := ?_) rfl (by kernel_rfl) (by kernel_rfl) (by kernel_rfl) (fun _ _ _ h => h) (Or.inl ⟨by rfl, ?_⟩) hH ?_
  rotate_left
  · ((intro w hSw; (try dsimp only at hSw); go_simp); try with_reducible rfl)
  simp only [Act.put, List.setIfInBounds_toArray, List.set_cons_zero, List.set_cons_succ]
  refine wpAnyH_done (by kernel_rfl) ?_ _
  clear hH
  go_wp2
  go_ret
  exact ⟨g7, rfl, X7.out, hsz7, O7.out⟩

end Go.Proofs.Ythacfanfhdjmbaa
