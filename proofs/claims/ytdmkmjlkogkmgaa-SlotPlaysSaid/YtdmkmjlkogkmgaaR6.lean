/- The document's own device: New, the walk. -/
import Derived.Test.YtdmkmjlkogkmgaaR5
namespace Go.Proofs.Ytdmkmjlkogkmgaa
open Go.RowKit Go.Maps
set_option linter.unusedSimpArgs false
set_option linter.unusedVariables false

theorem New_ref_bad (size : Int) (w : World) (h : size < 1 ∨ 4096 < size) :
    Calls Try.prog 10 #[.int .i64 size] w fun e w' => e = .returned (.tuple #[.pointer none, .int .i64 1]) ∧ w = w' := by
  rcases h with h | h
  · go_enter Try.func10, Try.ntmps10
    go_wp2
    go_ret2
    exact ⟨rfl, rfl⟩
  · have h' : ¬ size < 1 := by omega
    go_enter Try.func10, Try.ntmps10
    go_wp2
    go_ret2
    exact ⟨rfl, rfl⟩

set_option maxRecDepth 100000 in
set_option maxHeartbeats 1600000 in
theorem New_ref (n : Nat) (w : World) (h1 : 1 ≤ n) (h2 : n ≤ 4096) :
    Calls Try.prog 10 #[.int .i64 n] w fun e w' => ∃ b : RA, e = .returned (.tuple #[.pointer (some ⟨b.p, 0, none⟩), .int .i64 0]) ∧ RDev w' [] b (.fresh n) ∧ (∀ k ∈ b.bl, w.heap.size ≤ k) ∧ Only [] w w' := by
  have n0 : ¬ (n : Int) < 1 := by omega
  have n1 : ¬ (4096 : Int) < (n : Int) := by omega
  go_enter Try.func10, Try.ntmps10
  go_wp2_with fail
  have hs0 : NS w (w.alloc (.cells #[.slice none 0 0, .slice none 0 0, .slice none 0 0, .int .i64 0, .int .i64 0, .bool false, .int .i64 0, .bool false] 73)) w.heap.size (.slice none 0 0) (.slice none 0 0) (.slice none 0 0) [] [] 0 :=
    ⟨heap_new _ _, World.ownsRow_nil _ _ _ _, World.ownsRow_nil _ _ _ _, World.ownsRow_nil _ _ _ _, (fun g h => by cases h), (fun r hr => by simp at hr), (fun r hr => by simp at hr), (Only.refl _ _).alloc _, Nat.le_refl _⟩
  generalize hp : w.heap.size = p at hs0
  have HP := Lib.hid hp
  generalize w.alloc (.cells #[.slice none 0 0, .slice none 0 0, .slice none 0 0, .int .i64 0, .int .i64 0, .bool false, .int .i64 0, .bool false] 73) = w1 at hs0
  go_loopw [5] (fun i wr => ∃ (k : Nat) (vN vS vC : Value) (rN rS : List Value), k ≤ n ∧ i = .int .i64 k ∧ NS w wr p vN vS vC rN rS k ∧ rN.length = k ∧ rS.length = k) (fun i _ => n - (intOf i).toNat)
  case atStart => exact ⟨0, _, _, _, [], [], by omega, rfl, hs0, rfl, rfl⟩
  case round =>
    clear hs0
    obtain ⟨k, vN, vS, vC, rN, rS, hk, rfl, hs, eN, eS⟩ := hrel
    have k0 : (0 : Int) ≤ (k : Int) := by omega
    by_cases hlt : k < n
    · have k1 : (k : Int) < (n : Int) := by omega
      have HS := Lib.hid (hs.quiet ((Only.refl [] wr).drew))
      clear hs
      go_wp2_with fail
      refine wp_region_held_drew (S := fun _ => True) (by kernel_rfl) trivial (fun hH => ?_)
      refine take_list (i := 0) (v := ?_) rfl (by kernel_rfl) (by kernel_rfl) (by kernel_rfl) (fun _ _ _ h => h) (Or.inl ⟨by rfl, ?_⟩) hH ?_
      rotate_left
      · ((intro w hSw; (try dsimp only at hSw); go_simp); try with_reducible rfl)
      simp only [Act.put, List.setIfInBounds_toArray, List.set_cons_zero, List.set_cons_succ]
      refine take_list (i := 1) (v := ?_) rfl (by kernel_rfl) (by kernel_rfl) (by kernel_rfl) (fun _ _ _ h => h) (Or.inl ⟨by rfl, ?_⟩) hH ?_
      rotate_left
      · ((intro w hSw; (try dsimp only at hSw); go_simp); try with_reducible rfl)
      simp only [Act.put, List.setIfInBounds_toArray, List.set_cons_zero, List.set_cons_succ]
      refine take_list (i := 2) (v := ?_) rfl (by kernel_rfl) (by kernel_rfl) (by kernel_rfl) (fun _ _ _ h => h) (Or.inl ⟨by rfl, ?_⟩) hH ?_
      rotate_left
      · ((intro w hSw; (try dsimp only at hSw); go_simp); try with_reducible rfl)
      simp only [Act.put, List.setIfInBounds_toArray, List.set_cons_zero, List.set_cons_succ]
      refine take_list (i := 3) (v := ?_) rfl (by kernel_rfl) (by kernel_rfl) (by kernel_rfl) (fun _ _ _ h => h) (Or.inl ⟨by rfl, ?_⟩) hH ?_
      rotate_left
      · ((intro w hSw; (try dsimp only at hSw); go_simp); try with_reducible rfl)
      simp only [Act.put, List.setIfInBounds_toArray, List.set_cons_zero, List.set_cons_succ]
      have c0 : wr.drew.cell? ⟨p, 0, none⟩ = some vN := (cell_at 0 HS.out.blk).trans rfl
      refine wpAnyH_ready (rs := [4, 5]) (by kernel_rfl) (by simp) ?_
      refine ready_two rfl rfl (fun K hK => ?_) (fun K hK => ?_) <;> go_simp
      ·
        refine hK.out _ _ trivial (fun hH => ?_)
        clear hK K
        clear c0
        refine wpAnyH_ready (rs := [5]) (by kernel_rfl) (by simp) ?_
        refine ready_list rfl (fun K hK => ?_)
        go_simp
        refine (rblank_any _).mono ?_
        rintro e w2 ⟨g2, rfl, b2, _, o2⟩
        have H2 := Lib.hid (HS.out.quiet o2)
        have R2 := Lib.hid (b2.rowB zeros_length 512 ⟨Nat.le_refl _, by unfold maxLen; omega⟩)
        have c0 : w2.cell? ⟨p, 0, none⟩ = some vN := (cell_at 0 H2.out.blk).trans rfl
        refine hK.out _ _ trivial (fun hH => ?_)
        clear hK K b2 o2 HS
        refine wpAnyH_ready (rs := [6]) (by kernel_rfl) (by simp) ?_
        refine ready_list rfl (fun K hK => ?_)
        go_simp
        have H3 := Lib.hid (H2.out.quiet ((Only.refl [] w2).alloc (.cells #[.slice (some ⟨g2, 0, none⟩) 512 512] 37)))
        have R3 := Lib.hid (R2.out.kept ((Only.refl [] w2).alloc (.cells #[.slice (some ⟨g2, 0, none⟩) 512 512] 37)) (foreign_nil _ _))
        have c0 : (w2.alloc (.cells #[.slice (some ⟨g2, 0, none⟩) 512 512] 37)).cell? ⟨p, 0, none⟩ = some vN := (cell_at 0 H3.out.blk).trans rfl
        refine hK.out _ _ trivial (fun hH => ?_)
        clear hK K H2 R2
        clear c0
        refine wpAnyH_ready (rs := [7]) (by kernel_rfl) (by simp) ?_
        refine ready_list rfl (fun K hK => ?_)
        refine step_append_rows rfl (.tmp 23) (.tmp 25) rfl w.heap.size _ rN (by rfl) H3.out.oN _ (by rfl) _ (heap_new_cell w2 _ _) (by rfl) (by omega) (by have := H3.out.only.size; omega) (fun g3 cap3 w3 hown3 o3 hg3 => ?_)
        have H4 := Lib.hid (H3.out.growN R3.out hown3 o3 hg3)
        rw [eN] at H4
        have b4 := o3.heap H3.out.blk (fun hm => own_type_ne H3.out.oN H3.out.blk (by decide) _ (by simpa using hm) rfl)
        have c4 : w3.cell? ⟨p, 0, none⟩ = some vN := (cell_at 0 b4).trans rfl
        have f4 : w3.frozen? ⟨p, 0, none⟩ = false := free_at 0 b4
        refine hK.out _ _ trivial (fun hH => ?_)
        clear hK K H3 R3 hown3 o3 hg3 b4
        refine take_list (i := 8) (v := ?_) rfl (by kernel_rfl) (by kernel_rfl) (by kernel_rfl) (fun _ _ _ h => h) (Or.inl ⟨by rfl, ?_⟩) hH ?_
        rotate_left
        · ((intro w hSw; (try dsimp only at hSw); go_simp); try with_reducible rfl)
        simp only [Act.put, List.setIfInBounds_toArray, List.set_cons_zero, List.set_cons_succ]
        refine take_list (i := 9) (v := ?_) rfl (by kernel_rfl) (by kernel_rfl) (by kernel_rfl) (fun _ _ _ h => h) (Or.inl ⟨by rfl, ?_⟩) hH ?_
        rotate_left
        · ((intro w hSw; (try dsimp only at hSw); go_simp); try with_reducible rfl)
        simp only [Act.put, List.setIfInBounds_toArray, List.set_cons_zero, List.set_cons_succ]
        refine wpAnyH_ready (rs := [10]) (by kernel_rfl) (by simp) ?_
        refine ready_list rfl (fun K hK => ?_)
        go_simp
        refine hK.out _ _ trivial (fun hH => ?_)
        clear hK K
        refine wpAnyH_done (by kernel_rfl) ?_ _
        clear hH c4 f4
        go_wp2_with fail
        generalize w3.setCell ⟨p, 0, none⟩ (.slice (some ⟨g3, 0, none⟩) (k + 1) cap3) = w5 at H4 ⊢
        have HS := Lib.hid (H4.out.quiet ((Only.refl [] w5).drew))
        clear H4
        refine wp_region_held_drew (S := fun _ => True) (by kernel_rfl) trivial (fun hH => ?_)
        refine take_list (i := 0) (v := ?_) rfl (by kernel_rfl) (by kernel_rfl) (by kernel_rfl) (fun _ _ _ h => h) (Or.inl ⟨by rfl, ?_⟩) hH ?_
        rotate_left
        · ((intro w hSw; (try dsimp only at hSw); go_simp); try with_reducible rfl)
        simp only [Act.put, List.setIfInBounds_toArray, List.set_cons_zero, List.set_cons_succ]
        refine take_list (i := 1) (v := ?_) rfl (by kernel_rfl) (by kernel_rfl) (by kernel_rfl) (fun _ _ _ h => h) (Or.inl ⟨by rfl, ?_⟩) hH ?_
        rotate_left
        · ((intro w hSw; (try dsimp only at hSw); go_simp); try with_reducible rfl)
        simp only [Act.put, List.setIfInBounds_toArray, List.set_cons_zero, List.set_cons_succ]
        refine take_list (i := 2) (v := ?_) rfl (by kernel_rfl) (by kernel_rfl) (by kernel_rfl) (fun _ _ _ h => h) (Or.inl ⟨by rfl, ?_⟩) hH ?_
        rotate_left
        · ((intro w hSw; (try dsimp only at hSw); go_simp); try with_reducible rfl)
        simp only [Act.put, List.setIfInBounds_toArray, List.set_cons_zero, List.set_cons_succ]
        refine take_list (i := 3) (v := ?_) rfl (by kernel_rfl) (by kernel_rfl) (by kernel_rfl) (fun _ _ _ h => h) (Or.inl ⟨by rfl, ?_⟩) hH ?_
        rotate_left
        · ((intro w hSw; (try dsimp only at hSw); go_simp); try with_reducible rfl)
        simp only [Act.put, List.setIfInBounds_toArray, List.set_cons_zero, List.set_cons_succ]
        have c0 : w5.drew.cell? ⟨p, 1, none⟩ = some vS := (cell_at 1 HS.out.blk).trans rfl
        refine wpAnyH_ready (rs := [4, 5]) (by kernel_rfl) (by simp) ?_
        refine ready_two rfl rfl (fun K hK => ?_) (fun K hK => ?_) <;> go_simp
        ·
          refine hK.out _ _ trivial (fun hH => ?_)
          clear hK K
          clear c0
          refine wpAnyH_ready (rs := [5]) (by kernel_rfl) (by simp) ?_
          refine ready_list rfl (fun K hK => ?_)
          go_simp
          refine (rblank_any _).mono ?_
          rintro e w2 ⟨g2, rfl, b2, _, o2⟩
          have H2 := Lib.hid (HS.out.quiet o2)
          have R2 := Lib.hid (b2.rowB zeros_length 512 ⟨Nat.le_refl _, by unfold maxLen; omega⟩)
          have c0 : w2.cell? ⟨p, 1, none⟩ = some vS := (cell_at 1 H2.out.blk).trans rfl
          refine hK.out _ _ trivial (fun hH => ?_)
          clear hK K b2 o2 HS
          refine wpAnyH_ready (rs := [6]) (by kernel_rfl) (by simp) ?_
          refine ready_list rfl (fun K hK => ?_)
          go_simp
          have H3 := Lib.hid (H2.out.quiet ((Only.refl [] w2).alloc (.cells #[.slice (some ⟨g2, 0, none⟩) 512 512] 37)))
          have R3 := Lib.hid (R2.out.kept ((Only.refl [] w2).alloc (.cells #[.slice (some ⟨g2, 0, none⟩) 512 512] 37)) (foreign_nil _ _))
          have c0 : (w2.alloc (.cells #[.slice (some ⟨g2, 0, none⟩) 512 512] 37)).cell? ⟨p, 1, none⟩ = some vS := (cell_at 1 H3.out.blk).trans rfl
          refine hK.out _ _ trivial (fun hH => ?_)
          clear hK K H2 R2
          clear c0
          refine wpAnyH_ready (rs := [7]) (by kernel_rfl) (by simp) ?_
          refine ready_list rfl (fun K hK => ?_)
          refine step_append_rows rfl (.tmp 33) (.tmp 35) rfl w.heap.size _ rS (by rfl) H3.out.oS _ (by rfl) _ (heap_new_cell w2 _ _) (by rfl) (by omega) (by have := H3.out.only.size; omega) (fun g3 cap3 w3 hown3 o3 hg3 => ?_)
          have H4 := Lib.hid (H3.out.growS R3.out hown3 o3 hg3)
          rw [eS] at H4
          have b4 := o3.heap H3.out.blk (fun hm => own_type_ne H3.out.oS H3.out.blk (by decide) _ (by simpa using hm) rfl)
          have c4 : w3.cell? ⟨p, 1, none⟩ = some vS := (cell_at 1 b4).trans rfl
          have f4 : w3.frozen? ⟨p, 1, none⟩ = false := free_at 1 b4
          refine hK.out _ _ trivial (fun hH => ?_)
          clear hK K H3 R3 hown3 o3 hg3 b4
          refine take_list (i := 8) (v := ?_) rfl (by kernel_rfl) (by kernel_rfl) (by kernel_rfl) (fun _ _ _ h => h) (Or.inl ⟨by rfl, ?_⟩) hH ?_
          rotate_left
          · ((intro w hSw; (try dsimp only at hSw); go_simp); try with_reducible rfl)
          simp only [Act.put, List.setIfInBounds_toArray, List.set_cons_zero, List.set_cons_succ]
          refine take_list (i := 9) (v := ?_) rfl (by kernel_rfl) (by kernel_rfl) (by kernel_rfl) (fun _ _ _ h => h) (Or.inl ⟨by rfl, ?_⟩) hH ?_
          rotate_left
          · ((intro w hSw; (try dsimp only at hSw); go_simp); try with_reducible rfl)
          simp only [Act.put, List.setIfInBounds_toArray, List.set_cons_zero, List.set_cons_succ]
          refine wpAnyH_ready (rs := [10]) (by kernel_rfl) (by simp) ?_
          refine ready_list rfl (fun K hK => ?_)
          go_simp
          refine hK.out _ _ trivial (fun hH => ?_)
          clear hK K
          refine wpAnyH_done (by kernel_rfl) ?_ _
          clear hH c4 f4
          generalize w3.setCell ⟨p, 1, none⟩ (.slice (some ⟨g3, 0, none⟩) (k + 1) cap3) = w6 at H4 ⊢
          have H6 := H4
          clear H4
          have c6 : w6.cell? ⟨p, 2, none⟩ = some vC := (cell_at 2 H6.out.blk).trans rfl
          have HQ := Lib.hid (H6.out.quiet ((Only.refl [] w6).alloc (.cells #[.bool false] 4)))
          go_wp2_with (refine wpList_append_bool rfl (.tmp 43) (.tmp 44) rfl w.heap.size _ _ k (List.length_replicate ..) (by rfl) HQ.out.oC _ (by rfl) _ (heap_new_cell w6 _ _) (by rfl) (by omega) (by have := HQ.out.only.size; omega) ?_; intro g7 cap7 w7 hown7 o7
                       have H7 := Lib.hid (HQ.out.growC hown7 o7)
                       have b7 := o7.heap HQ.out.blk (fun hm => own_type_ne HQ.out.oC HQ.out.blk (by decide) _ (by simpa using hm) rfl)
                       have c7 : w7.cell? ⟨p, 2, none⟩ = some vC := (cell_at 2 b7).trans rfl
                       have f7 : w7.frozen? ⟨p, 2, none⟩ = false := free_at 2 b7
                       clear hown7 o7 b7)
          clear c6
          go_roundw
          case rel => exact ⟨k + 1, _, _, _, _, _, by omega, by go_num, H7.out, by rw [List.length_append, eN]; rfl, by rw [List.length_append, eS]; rfl⟩
          case measure => simp [intOf]; omega
        ·
          clear c0
          refine (rblank_any _).mono ?_
          rintro e w2 ⟨g2, rfl, b2, _, o2⟩
          have H2 := Lib.hid (HS.out.quiet o2)
          have R2 := Lib.hid (b2.rowB zeros_length 512 ⟨Nat.le_refl _, by unfold maxLen; omega⟩)
          have c0 : w2.cell? ⟨p, 1, none⟩ = some vS := (cell_at 1 H2.out.blk).trans rfl
          refine hK.out _ _ trivial (fun hH => ?_)
          clear hK K b2 o2 HS
          refine wpAnyH_ready (rs := [4, 6]) (by kernel_rfl) (by simp) ?_
          refine ready_two rfl rfl (fun K hK => ?_) (fun K hK => ?_) <;> go_simp
          ·
            refine hK.out _ _ trivial (fun hH => ?_)
            clear hK K
            refine wpAnyH_ready (rs := [6]) (by kernel_rfl) (by simp) ?_
            refine ready_list rfl (fun K hK => ?_)
            go_simp
            have H3 := Lib.hid (H2.out.quiet ((Only.refl [] w2).alloc (.cells #[.slice (some ⟨g2, 0, none⟩) 512 512] 37)))
            have R3 := Lib.hid (R2.out.kept ((Only.refl [] w2).alloc (.cells #[.slice (some ⟨g2, 0, none⟩) 512 512] 37)) (foreign_nil _ _))
            have c0 : (w2.alloc (.cells #[.slice (some ⟨g2, 0, none⟩) 512 512] 37)).cell? ⟨p, 1, none⟩ = some vS := (cell_at 1 H3.out.blk).trans rfl
            refine hK.out _ _ trivial (fun hH => ?_)
            clear hK K H2 R2
            clear c0
            refine wpAnyH_ready (rs := [7]) (by kernel_rfl) (by simp) ?_
            refine ready_list rfl (fun K hK => ?_)
            refine step_append_rows rfl (.tmp 33) (.tmp 35) rfl w.heap.size _ rS (by rfl) H3.out.oS _ (by rfl) _ (heap_new_cell w2 _ _) (by rfl) (by omega) (by have := H3.out.only.size; omega) (fun g3 cap3 w3 hown3 o3 hg3 => ?_)
            have H4 := Lib.hid (H3.out.growS R3.out hown3 o3 hg3)
            rw [eS] at H4
            have b4 := o3.heap H3.out.blk (fun hm => own_type_ne H3.out.oS H3.out.blk (by decide) _ (by simpa using hm) rfl)
            have c4 : w3.cell? ⟨p, 1, none⟩ = some vS := (cell_at 1 b4).trans rfl
            have f4 : w3.frozen? ⟨p, 1, none⟩ = false := free_at 1 b4
            refine hK.out _ _ trivial (fun hH => ?_)
            clear hK K H3 R3 hown3 o3 hg3 b4
            refine take_list (i := 8) (v := ?_) rfl (by kernel_rfl) (by kernel_rfl) (by kernel_rfl) (fun _ _ _ h => h) (Or.inl ⟨by rfl, ?_⟩) hH ?_
            rotate_left
            · ((intro w hSw; (try dsimp only at hSw); go_simp); try with_reducible rfl)
            simp only [Act.put, List.setIfInBounds_toArray, List.set_cons_zero, List.set_cons_succ]
            refine take_list (i := 9) (v := ?_) rfl (by kernel_rfl) (by kernel_rfl) (by kernel_rfl) (fun _ _ _ h => h) (Or.inl ⟨by rfl, ?_⟩) hH ?_
            rotate_left
            · ((intro w hSw; (try dsimp only at hSw); go_simp); try with_reducible rfl)
            simp only [Act.put, List.setIfInBounds_toArray, List.set_cons_zero, List.set_cons_succ]
            refine wpAnyH_ready (rs := [10]) (by kernel_rfl) (by simp) ?_
            refine ready_list rfl (fun K hK => ?_)
            go_simp
            refine hK.out _ _ trivial (fun hH => ?_)
            clear hK K
            refine wpAnyH_done (by kernel_rfl) ?_ _
            clear hH c4 f4
            generalize w3.setCell ⟨p, 1, none⟩ (.slice (some ⟨g3, 0, none⟩) (k + 1) cap3) = w6 at H4 ⊢
            have H6 := H4
            clear H4
            have c6 : w6.cell? ⟨p, 2, none⟩ = some vC := (cell_at 2 H6.out.blk).trans rfl
            have HQ := Lib.hid (H6.out.quiet ((Only.refl [] w6).alloc (.cells #[.bool false] 4)))
            go_wp2_with (refine wpList_append_bool rfl (.tmp 43) (.tmp 44) rfl w.heap.size _ _ k (List.length_replicate ..) (by rfl) HQ.out.oC _ (by rfl) _ (heap_new_cell w6 _ _) (by rfl) (by omega) (by have := HQ.out.only.size; omega) ?_; intro g7 cap7 w7 hown7 o7
                         have H7 := Lib.hid (HQ.out.growC hown7 o7)
                         have b7 := o7.heap HQ.out.blk (fun hm => own_type_ne HQ.out.oC HQ.out.blk (by decide) _ (by simpa using hm) rfl)
                         have c7 : w7.cell? ⟨p, 2, none⟩ = some vC := (cell_at 2 b7).trans rfl
                         have f7 : w7.frozen? ⟨p, 2, none⟩ = false := free_at 2 b7
                         clear hown7 o7 b7)
            clear c6
            go_roundw
            case rel => exact ⟨k + 1, _, _, _, _, _, by omega, by go_num, H7.out, by rw [List.length_append, eN]; rfl, by rw [List.length_append, eS]; rfl⟩
            case measure => simp [intOf]; omega
          ·
            have H3 := Lib.hid (H2.out.quiet ((Only.refl [] w2).alloc (.cells #[.slice (some ⟨g2, 0, none⟩) 512 512] 37)))
            have R3 := Lib.hid (R2.out.kept ((Only.refl [] w2).alloc (.cells #[.slice (some ⟨g2, 0, none⟩) 512 512] 37)) (foreign_nil _ _))
            have c0 : (w2.alloc (.cells #[.slice (some ⟨g2, 0, none⟩) 512 512] 37)).cell? ⟨p, 1, none⟩ = some vS := (cell_at 1 H3.out.blk).trans rfl
            refine hK.out _ _ trivial (fun hH => ?_)
            clear hK K H2 R2
            refine wpAnyH_ready (rs := [4]) (by kernel_rfl) (by simp) ?_
            refine ready_list rfl (fun K hK => ?_)
            go_simp
            refine hK.out _ _ trivial (fun hH => ?_)
            clear hK K
            clear c0
            refine wpAnyH_ready (rs := [7]) (by kernel_rfl) (by simp) ?_
            refine ready_list rfl (fun K hK => ?_)
            refine step_append_rows rfl (.tmp 33) (.tmp 35) rfl w.heap.size _ rS (by rfl) H3.out.oS _ (by rfl) _ (heap_new_cell w2 _ _) (by rfl) (by omega) (by have := H3.out.only.size; omega) (fun g3 cap3 w3 hown3 o3 hg3 => ?_)
            have H4 := Lib.hid (H3.out.growS R3.out hown3 o3 hg3)
            rw [eS] at H4
            have b4 := o3.heap H3.out.blk (fun hm => own_type_ne H3.out.oS H3.out.blk (by decide) _ (by simpa using hm) rfl)
            have c4 : w3.cell? ⟨p, 1, none⟩ = some vS := (cell_at 1 b4).trans rfl
            have f4 : w3.frozen? ⟨p, 1, none⟩ = false := free_at 1 b4
            refine hK.out _ _ trivial (fun hH => ?_)
            clear hK K H3 R3 hown3 o3 hg3 b4
            refine take_list (i := 8) (v := ?_) rfl (by kernel_rfl) (by kernel_rfl) (by kernel_rfl) (fun _ _ _ h => h) (Or.inl ⟨by rfl, ?_⟩) hH ?_
            rotate_left
            · ((intro w hSw; (try dsimp only at hSw); go_simp); try with_reducible rfl)
            simp only [Act.put, List.setIfInBounds_toArray, List.set_cons_zero, List.set_cons_succ]
            refine take_list (i := 9) (v := ?_) rfl (by kernel_rfl) (by kernel_rfl) (by kernel_rfl) (fun _ _ _ h => h) (Or.inl ⟨by rfl, ?_⟩) hH ?_
            rotate_left
            · ((intro w hSw; (try dsimp only at hSw); go_simp); try with_reducible rfl)
            simp only [Act.put, List.setIfInBounds_toArray, List.set_cons_zero, List.set_cons_succ]
            refine wpAnyH_ready (rs := [10]) (by kernel_rfl) (by simp) ?_
            refine ready_list rfl (fun K hK => ?_)
            go_simp
            refine hK.out _ _ trivial (fun hH => ?_)
            clear hK K
            refine wpAnyH_done (by kernel_rfl) ?_ _
            clear hH c4 f4
            generalize w3.setCell ⟨p, 1, none⟩ (.slice (some ⟨g3, 0, none⟩) (k + 1) cap3) = w6 at H4 ⊢
            have H6 := H4
            clear H4
            have c6 : w6.cell? ⟨p, 2, none⟩ = some vC := (cell_at 2 H6.out.blk).trans rfl
            have HQ := Lib.hid (H6.out.quiet ((Only.refl [] w6).alloc (.cells #[.bool false] 4)))
            go_wp2_with (refine wpList_append_bool rfl (.tmp 43) (.tmp 44) rfl w.heap.size _ _ k (List.length_replicate ..) (by rfl) HQ.out.oC _ (by rfl) _ (heap_new_cell w6 _ _) (by rfl) (by omega) (by have := HQ.out.only.size; omega) ?_; intro g7 cap7 w7 hown7 o7
                         have H7 := Lib.hid (HQ.out.growC hown7 o7)
                         have b7 := o7.heap HQ.out.blk (fun hm => own_type_ne HQ.out.oC HQ.out.blk (by decide) _ (by simpa using hm) rfl)
                         have c7 : w7.cell? ⟨p, 2, none⟩ = some vC := (cell_at 2 b7).trans rfl
                         have f7 : w7.frozen? ⟨p, 2, none⟩ = false := free_at 2 b7
                         clear hown7 o7 b7)
            clear c6
            go_roundw
            case rel => exact ⟨k + 1, _, _, _, _, _, by omega, by go_num, H7.out, by rw [List.length_append, eN]; rfl, by rw [List.length_append, eS]; rfl⟩
            case measure => simp [intOf]; omega
      ·
        clear c0
        refine (rblank_any _).mono ?_
        rintro e w2 ⟨g2, rfl, b2, _, o2⟩
        have H2 := Lib.hid (HS.out.quiet o2)
        have R2 := Lib.hid (b2.rowB zeros_length 512 ⟨Nat.le_refl _, by unfold maxLen; omega⟩)
        have c0 : w2.cell? ⟨p, 0, none⟩ = some vN := (cell_at 0 H2.out.blk).trans rfl
        refine hK.out _ _ trivial (fun hH => ?_)
        clear hK K b2 o2 HS
        refine wpAnyH_ready (rs := [4, 6]) (by kernel_rfl) (by simp) ?_
        refine ready_two rfl rfl (fun K hK => ?_) (fun K hK => ?_) <;> go_simp
        ·
          refine hK.out _ _ trivial (fun hH => ?_)
          clear hK K
          refine wpAnyH_ready (rs := [6]) (by kernel_rfl) (by simp) ?_
          refine ready_list rfl (fun K hK => ?_)
          go_simp
          have H3 := Lib.hid (H2.out.quiet ((Only.refl [] w2).alloc (.cells #[.slice (some ⟨g2, 0, none⟩) 512 512] 37)))
          have R3 := Lib.hid (R2.out.kept ((Only.refl [] w2).alloc (.cells #[.slice (some ⟨g2, 0, none⟩) 512 512] 37)) (foreign_nil _ _))
          have c0 : (w2.alloc (.cells #[.slice (some ⟨g2, 0, none⟩) 512 512] 37)).cell? ⟨p, 0, none⟩ = some vN := (cell_at 0 H3.out.blk).trans rfl
          refine hK.out _ _ trivial (fun hH => ?_)
          clear hK K H2 R2
          clear c0
          refine wpAnyH_ready (rs := [7]) (by kernel_rfl) (by simp) ?_
          refine ready_list rfl (fun K hK => ?_)
          refine step_append_rows rfl (.tmp 23) (.tmp 25) rfl w.heap.size _ rN (by rfl) H3.out.oN _ (by rfl) _ (heap_new_cell w2 _ _) (by rfl) (by omega) (by have := H3.out.only.size; omega) (fun g3 cap3 w3 hown3 o3 hg3 => ?_)
          have H4 := Lib.hid (H3.out.growN R3.out hown3 o3 hg3)
          rw [eN] at H4
          have b4 := o3.heap H3.out.blk (fun hm => own_type_ne H3.out.oN H3.out.blk (by decide) _ (by simpa using hm) rfl)
          have c4 : w3.cell? ⟨p, 0, none⟩ = some vN := (cell_at 0 b4).trans rfl
          have f4 : w3.frozen? ⟨p, 0, none⟩ = false := free_at 0 b4
          refine hK.out _ _ trivial (fun hH => ?_)
          clear hK K H3 R3 hown3 o3 hg3 b4
          refine take_list (i := 8) (v := ?_) rfl (by kernel_rfl) (by kernel_rfl) (by kernel_rfl) (fun _ _ _ h => h) (Or.inl ⟨by rfl, ?_⟩) hH ?_
          rotate_left
          · ((intro w hSw; (try dsimp only at hSw); go_simp); try with_reducible rfl)
          simp only [Act.put, List.setIfInBounds_toArray, List.set_cons_zero, List.set_cons_succ]
          refine take_list (i := 9) (v := ?_) rfl (by kernel_rfl) (by kernel_rfl) (by kernel_rfl) (fun _ _ _ h => h) (Or.inl ⟨by rfl, ?_⟩) hH ?_
          rotate_left
          · ((intro w hSw; (try dsimp only at hSw); go_simp); try with_reducible rfl)
          simp only [Act.put, List.setIfInBounds_toArray, List.set_cons_zero, List.set_cons_succ]
          refine wpAnyH_ready (rs := [10]) (by kernel_rfl) (by simp) ?_
          refine ready_list rfl (fun K hK => ?_)
          go_simp
          refine hK.out _ _ trivial (fun hH => ?_)
          clear hK K
          refine wpAnyH_done (by kernel_rfl) ?_ _
          clear hH c4 f4
          go_wp2_with fail
          generalize w3.setCell ⟨p, 0, none⟩ (.slice (some ⟨g3, 0, none⟩) (k + 1) cap3) = w5 at H4 ⊢
          have HS := Lib.hid (H4.out.quiet ((Only.refl [] w5).drew))
          clear H4
          refine wp_region_held_drew (S := fun _ => True) (by kernel_rfl) trivial (fun hH => ?_)
          refine take_list (i := 0) (v := ?_) rfl (by kernel_rfl) (by kernel_rfl) (by kernel_rfl) (fun _ _ _ h => h) (Or.inl ⟨by rfl, ?_⟩) hH ?_
          rotate_left
          · ((intro w hSw; (try dsimp only at hSw); go_simp); try with_reducible rfl)
          simp only [Act.put, List.setIfInBounds_toArray, List.set_cons_zero, List.set_cons_succ]
          refine take_list (i := 1) (v := ?_) rfl (by kernel_rfl) (by kernel_rfl) (by kernel_rfl) (fun _ _ _ h => h) (Or.inl ⟨by rfl, ?_⟩) hH ?_
          rotate_left
          · ((intro w hSw; (try dsimp only at hSw); go_simp); try with_reducible rfl)
          simp only [Act.put, List.setIfInBounds_toArray, List.set_cons_zero, List.set_cons_succ]
          refine take_list (i := 2) (v := ?_) rfl (by kernel_rfl) (by kernel_rfl) (by kernel_rfl) (fun _ _ _ h => h) (Or.inl ⟨by rfl, ?_⟩) hH ?_
          rotate_left
          · ((intro w hSw; (try dsimp only at hSw); go_simp); try with_reducible rfl)
          simp only [Act.put, List.setIfInBounds_toArray, List.set_cons_zero, List.set_cons_succ]
          refine take_list (i := 3) (v := ?_) rfl (by kernel_rfl) (by kernel_rfl) (by kernel_rfl) (fun _ _ _ h => h) (Or.inl ⟨by rfl, ?_⟩) hH ?_
          rotate_left
          · ((intro w hSw; (try dsimp only at hSw); go_simp); try with_reducible rfl)
          simp only [Act.put, List.setIfInBounds_toArray, List.set_cons_zero, List.set_cons_succ]
          have c0 : w5.drew.cell? ⟨p, 1, none⟩ = some vS := (cell_at 1 HS.out.blk).trans rfl
          refine wpAnyH_ready (rs := [4, 5]) (by kernel_rfl) (by simp) ?_
          refine ready_two rfl rfl (fun K hK => ?_) (fun K hK => ?_) <;> go_simp
          ·
            refine hK.out _ _ trivial (fun hH => ?_)
            clear hK K
            clear c0
            refine wpAnyH_ready (rs := [5]) (by kernel_rfl) (by simp) ?_
            refine ready_list rfl (fun K hK => ?_)
            go_simp
            refine (rblank_any _).mono ?_
            rintro e w2 ⟨g2, rfl, b2, _, o2⟩
            have H2 := Lib.hid (HS.out.quiet o2)
            have R2 := Lib.hid (b2.rowB zeros_length 512 ⟨Nat.le_refl _, by unfold maxLen; omega⟩)
            have c0 : w2.cell? ⟨p, 1, none⟩ = some vS := (cell_at 1 H2.out.blk).trans rfl
            refine hK.out _ _ trivial (fun hH => ?_)
            clear hK K b2 o2 HS
            refine wpAnyH_ready (rs := [6]) (by kernel_rfl) (by simp) ?_
            refine ready_list rfl (fun K hK => ?_)
            go_simp
            have H3 := Lib.hid (H2.out.quiet ((Only.refl [] w2).alloc (.cells #[.slice (some ⟨g2, 0, none⟩) 512 512] 37)))
            have R3 := Lib.hid (R2.out.kept ((Only.refl [] w2).alloc (.cells #[.slice (some ⟨g2, 0, none⟩) 512 512] 37)) (foreign_nil _ _))
            have c0 : (w2.alloc (.cells #[.slice (some ⟨g2, 0, none⟩) 512 512] 37)).cell? ⟨p, 1, none⟩ = some vS := (cell_at 1 H3.out.blk).trans rfl
            refine hK.out _ _ trivial (fun hH => ?_)
            clear hK K H2 R2
            clear c0
            refine wpAnyH_ready (rs := [7]) (by kernel_rfl) (by simp) ?_
            refine ready_list rfl (fun K hK => ?_)
            refine step_append_rows rfl (.tmp 33) (.tmp 35) rfl w.heap.size _ rS (by rfl) H3.out.oS _ (by rfl) _ (heap_new_cell w2 _ _) (by rfl) (by omega) (by have := H3.out.only.size; omega) (fun g3 cap3 w3 hown3 o3 hg3 => ?_)
            have H4 := Lib.hid (H3.out.growS R3.out hown3 o3 hg3)
            rw [eS] at H4
            have b4 := o3.heap H3.out.blk (fun hm => own_type_ne H3.out.oS H3.out.blk (by decide) _ (by simpa using hm) rfl)
            have c4 : w3.cell? ⟨p, 1, none⟩ = some vS := (cell_at 1 b4).trans rfl
            have f4 : w3.frozen? ⟨p, 1, none⟩ = false := free_at 1 b4
            refine hK.out _ _ trivial (fun hH => ?_)
            clear hK K H3 R3 hown3 o3 hg3 b4
            refine take_list (i := 8) (v := ?_) rfl (by kernel_rfl) (by kernel_rfl) (by kernel_rfl) (fun _ _ _ h => h) (Or.inl ⟨by rfl, ?_⟩) hH ?_
            rotate_left
            · ((intro w hSw; (try dsimp only at hSw); go_simp); try with_reducible rfl)
            simp only [Act.put, List.setIfInBounds_toArray, List.set_cons_zero, List.set_cons_succ]
            refine take_list (i := 9) (v := ?_) rfl (by kernel_rfl) (by kernel_rfl) (by kernel_rfl) (fun _ _ _ h => h) (Or.inl ⟨by rfl, ?_⟩) hH ?_
            rotate_left
            · ((intro w hSw; (try dsimp only at hSw); go_simp); try with_reducible rfl)
            simp only [Act.put, List.setIfInBounds_toArray, List.set_cons_zero, List.set_cons_succ]
            refine wpAnyH_ready (rs := [10]) (by kernel_rfl) (by simp) ?_
            refine ready_list rfl (fun K hK => ?_)
            go_simp
            refine hK.out _ _ trivial (fun hH => ?_)
            clear hK K
            refine wpAnyH_done (by kernel_rfl) ?_ _
            clear hH c4 f4
            generalize w3.setCell ⟨p, 1, none⟩ (.slice (some ⟨g3, 0, none⟩) (k + 1) cap3) = w6 at H4 ⊢
            have H6 := H4
            clear H4
            have c6 : w6.cell? ⟨p, 2, none⟩ = some vC := (cell_at 2 H6.out.blk).trans rfl
            have HQ := Lib.hid (H6.out.quiet ((Only.refl [] w6).alloc (.cells #[.bool false] 4)))
            go_wp2_with (refine wpList_append_bool rfl (.tmp 43) (.tmp 44) rfl w.heap.size _ _ k (List.length_replicate ..) (by rfl) HQ.out.oC _ (by rfl) _ (heap_new_cell w6 _ _) (by rfl) (by omega) (by have := HQ.out.only.size; omega) ?_; intro g7 cap7 w7 hown7 o7
                         have H7 := Lib.hid (HQ.out.growC hown7 o7)
                         have b7 := o7.heap HQ.out.blk (fun hm => own_type_ne HQ.out.oC HQ.out.blk (by decide) _ (by simpa using hm) rfl)
                         have c7 : w7.cell? ⟨p, 2, none⟩ = some vC := (cell_at 2 b7).trans rfl
                         have f7 : w7.frozen? ⟨p, 2, none⟩ = false := free_at 2 b7
                         clear hown7 o7 b7)
            clear c6
            go_roundw
            case rel => exact ⟨k + 1, _, _, _, _, _, by omega, by go_num, H7.out, by rw [List.length_append, eN]; rfl, by rw [List.length_append, eS]; rfl⟩
            case measure => simp [intOf]; omega
          ·
            clear c0
            refine (rblank_any _).mono ?_
            rintro e w2 ⟨g2, rfl, b2, _, o2⟩
            have H2 := Lib.hid (HS.out.quiet o2)
            have R2 := Lib.hid (b2.rowB zeros_length 512 ⟨Nat.le_refl _, by unfold maxLen; omega⟩)
            have c0 : w2.cell? ⟨p, 1, none⟩ = some vS := (cell_at 1 H2.out.blk).trans rfl
            refine hK.out _ _ trivial (fun hH => ?_)
            clear hK K b2 o2 HS
            refine wpAnyH_ready (rs := [4, 6]) (by kernel_rfl) (by simp) ?_
            refine ready_two rfl rfl (fun K hK => ?_) (fun K hK => ?_) <;> go_simp
            ·
              refine hK.out _ _ trivial (fun hH => ?_)
              clear hK K
              refine wpAnyH_ready (rs := [6]) (by kernel_rfl) (by simp) ?_
              refine ready_list rfl (fun K hK => ?_)
              go_simp
              have H3 := Lib.hid (H2.out.quiet ((Only.refl [] w2).alloc (.cells #[.slice (some ⟨g2, 0, none⟩) 512 512] 37)))
              have R3 := Lib.hid (R2.out.kept ((Only.refl [] w2).alloc (.cells #[.slice (some ⟨g2, 0, none⟩) 512 512] 37)) (foreign_nil _ _))
              have c0 : (w2.alloc (.cells #[.slice (some ⟨g2, 0, none⟩) 512 512] 37)).cell? ⟨p, 1, none⟩ = some vS := (cell_at 1 H3.out.blk).trans rfl
              refine hK.out _ _ trivial (fun hH => ?_)
              clear hK K H2 R2
              clear c0
              refine wpAnyH_ready (rs := [7]) (by kernel_rfl) (by simp) ?_
              refine ready_list rfl (fun K hK => ?_)
              refine step_append_rows rfl (.tmp 33) (.tmp 35) rfl w.heap.size _ rS (by rfl) H3.out.oS _ (by rfl) _ (heap_new_cell w2 _ _) (by rfl) (by omega) (by have := H3.out.only.size; omega) (fun g3 cap3 w3 hown3 o3 hg3 => ?_)
              have H4 := Lib.hid (H3.out.growS R3.out hown3 o3 hg3)
              rw [eS] at H4
              have b4 := o3.heap H3.out.blk (fun hm => own_type_ne H3.out.oS H3.out.blk (by decide) _ (by simpa using hm) rfl)
              have c4 : w3.cell? ⟨p, 1, none⟩ = some vS := (cell_at 1 b4).trans rfl
              have f4 : w3.frozen? ⟨p, 1, none⟩ = false := free_at 1 b4
              refine hK.out _ _ trivial (fun hH => ?_)
              clear hK K H3 R3 hown3 o3 hg3 b4
              refine take_list (i := 8) (v := ?_) rfl (by kernel_rfl) (by kernel_rfl) (by kernel_rfl) (fun _ _ _ h => h) (Or.inl ⟨by rfl, ?_⟩) hH ?_
              rotate_left
              · ((intro w hSw; (try dsimp only at hSw); go_simp); try with_reducible rfl)
              simp only [Act.put, List.setIfInBounds_toArray, List.set_cons_zero, List.set_cons_succ]
              refine take_list (i := 9) (v := ?_) rfl (by kernel_rfl) (by kernel_rfl) (by kernel_rfl) (fun _ _ _ h => h) (Or.inl ⟨by rfl, ?_⟩) hH ?_
              rotate_left
              · ((intro w hSw; (try dsimp only at hSw); go_simp); try with_reducible rfl)
              simp only [Act.put, List.setIfInBounds_toArray, List.set_cons_zero, List.set_cons_succ]
              refine wpAnyH_ready (rs := [10]) (by kernel_rfl) (by simp) ?_
              refine ready_list rfl (fun K hK => ?_)
              go_simp
              refine hK.out _ _ trivial (fun hH => ?_)
              clear hK K
              refine wpAnyH_done (by kernel_rfl) ?_ _
              clear hH c4 f4
              generalize w3.setCell ⟨p, 1, none⟩ (.slice (some ⟨g3, 0, none⟩) (k + 1) cap3) = w6 at H4 ⊢
              have H6 := H4
              clear H4
              have c6 : w6.cell? ⟨p, 2, none⟩ = some vC := (cell_at 2 H6.out.blk).trans rfl
              have HQ := Lib.hid (H6.out.quiet ((Only.refl [] w6).alloc (.cells #[.bool false] 4)))
              go_wp2_with (refine wpList_append_bool rfl (.tmp 43) (.tmp 44) rfl w.heap.size _ _ k (List.length_replicate ..) (by rfl) HQ.out.oC _ (by rfl) _ (heap_new_cell w6 _ _) (by rfl) (by omega) (by have := HQ.out.only.size; omega) ?_; intro g7 cap7 w7 hown7 o7
                           have H7 := Lib.hid (HQ.out.growC hown7 o7)
                           have b7 := o7.heap HQ.out.blk (fun hm => own_type_ne HQ.out.oC HQ.out.blk (by decide) _ (by simpa using hm) rfl)
                           have c7 : w7.cell? ⟨p, 2, none⟩ = some vC := (cell_at 2 b7).trans rfl
                           have f7 : w7.frozen? ⟨p, 2, none⟩ = false := free_at 2 b7
                           clear hown7 o7 b7)
              clear c6
              go_roundw
              case rel => exact ⟨k + 1, _, _, _, _, _, by omega, by go_num, H7.out, by rw [List.length_append, eN]; rfl, by rw [List.length_append, eS]; rfl⟩
              case measure => simp [intOf]; omega
            ·
              have H3 := Lib.hid (H2.out.quiet ((Only.refl [] w2).alloc (.cells #[.slice (some ⟨g2, 0, none⟩) 512 512] 37)))
              have R3 := Lib.hid (R2.out.kept ((Only.refl [] w2).alloc (.cells #[.slice (some ⟨g2, 0, none⟩) 512 512] 37)) (foreign_nil _ _))
              have c0 : (w2.alloc (.cells #[.slice (some ⟨g2, 0, none⟩) 512 512] 37)).cell? ⟨p, 1, none⟩ = some vS := (cell_at 1 H3.out.blk).trans rfl
              refine hK.out _ _ trivial (fun hH => ?_)
              clear hK K H2 R2
              refine wpAnyH_ready (rs := [4]) (by kernel_rfl) (by simp) ?_
              refine ready_list rfl (fun K hK => ?_)
              go_simp
              refine hK.out _ _ trivial (fun hH => ?_)
              clear hK K
              clear c0
              refine wpAnyH_ready (rs := [7]) (by kernel_rfl) (by simp) ?_
              refine ready_list rfl (fun K hK => ?_)
              refine step_append_rows rfl (.tmp 33) (.tmp 35) rfl w.heap.size _ rS (by rfl) H3.out.oS _ (by rfl) _ (heap_new_cell w2 _ _) (by rfl) (by omega) (by have := H3.out.only.size; omega) (fun g3 cap3 w3 hown3 o3 hg3 => ?_)
              have H4 := Lib.hid (H3.out.growS R3.out hown3 o3 hg3)
              rw [eS] at H4
              have b4 := o3.heap H3.out.blk (fun hm => own_type_ne H3.out.oS H3.out.blk (by decide) _ (by simpa using hm) rfl)
              have c4 : w3.cell? ⟨p, 1, none⟩ = some vS := (cell_at 1 b4).trans rfl
              have f4 : w3.frozen? ⟨p, 1, none⟩ = false := free_at 1 b4
              refine hK.out _ _ trivial (fun hH => ?_)
              clear hK K H3 R3 hown3 o3 hg3 b4
              refine take_list (i := 8) (v := ?_) rfl (by kernel_rfl) (by kernel_rfl) (by kernel_rfl) (fun _ _ _ h => h) (Or.inl ⟨by rfl, ?_⟩) hH ?_
              rotate_left
              · ((intro w hSw; (try dsimp only at hSw); go_simp); try with_reducible rfl)
              simp only [Act.put, List.setIfInBounds_toArray, List.set_cons_zero, List.set_cons_succ]
              refine take_list (i := 9) (v := ?_) rfl (by kernel_rfl) (by kernel_rfl) (by kernel_rfl) (fun _ _ _ h => h) (Or.inl ⟨by rfl, ?_⟩) hH ?_
              rotate_left
              · ((intro w hSw; (try dsimp only at hSw); go_simp); try with_reducible rfl)
              simp only [Act.put, List.setIfInBounds_toArray, List.set_cons_zero, List.set_cons_succ]
              refine wpAnyH_ready (rs := [10]) (by kernel_rfl) (by simp) ?_
              refine ready_list rfl (fun K hK => ?_)
              go_simp
              refine hK.out _ _ trivial (fun hH => ?_)
              clear hK K
              refine wpAnyH_done (by kernel_rfl) ?_ _
              clear hH c4 f4
              generalize w3.setCell ⟨p, 1, none⟩ (.slice (some ⟨g3, 0, none⟩) (k + 1) cap3) = w6 at H4 ⊢
              have H6 := H4
              clear H4
              have c6 : w6.cell? ⟨p, 2, none⟩ = some vC := (cell_at 2 H6.out.blk).trans rfl
              have HQ := Lib.hid (H6.out.quiet ((Only.refl [] w6).alloc (.cells #[.bool false] 4)))
              go_wp2_with (refine wpList_append_bool rfl (.tmp 43) (.tmp 44) rfl w.heap.size _ _ k (List.length_replicate ..) (by rfl) HQ.out.oC _ (by rfl) _ (heap_new_cell w6 _ _) (by rfl) (by omega) (by have := HQ.out.only.size; omega) ?_; intro g7 cap7 w7 hown7 o7
                           have H7 := Lib.hid (HQ.out.growC hown7 o7)
                           have b7 := o7.heap HQ.out.blk (fun hm => own_type_ne HQ.out.oC HQ.out.blk (by decide) _ (by simpa using hm) rfl)
                           have c7 : w7.cell? ⟨p, 2, none⟩ = some vC := (cell_at 2 b7).trans rfl
                           have f7 : w7.frozen? ⟨p, 2, none⟩ = false := free_at 2 b7
                           clear hown7 o7 b7)
              clear c6
              go_roundw
              case rel => exact ⟨k + 1, _, _, _, _, _, by omega, by go_num, H7.out, by rw [List.length_append, eN]; rfl, by rw [List.length_append, eS]; rfl⟩
              case measure => simp [intOf]; omega
        ·
          have H3 := Lib.hid (H2.out.quiet ((Only.refl [] w2).alloc (.cells #[.slice (some ⟨g2, 0, none⟩) 512 512] 37)))
          have R3 := Lib.hid (R2.out.kept ((Only.refl [] w2).alloc (.cells #[.slice (some ⟨g2, 0, none⟩) 512 512] 37)) (foreign_nil _ _))
          have c0 : (w2.alloc (.cells #[.slice (some ⟨g2, 0, none⟩) 512 512] 37)).cell? ⟨p, 0, none⟩ = some vN := (cell_at 0 H3.out.blk).trans rfl
          refine hK.out _ _ trivial (fun hH => ?_)
          clear hK K H2 R2
          refine wpAnyH_ready (rs := [4]) (by kernel_rfl) (by simp) ?_
          refine ready_list rfl (fun K hK => ?_)
          go_simp
          refine hK.out _ _ trivial (fun hH => ?_)
          clear hK K
          clear c0
          refine wpAnyH_ready (rs := [7]) (by kernel_rfl) (by simp) ?_
          refine ready_list rfl (fun K hK => ?_)
          refine step_append_rows rfl (.tmp 23) (.tmp 25) rfl w.heap.size _ rN (by rfl) H3.out.oN _ (by rfl) _ (heap_new_cell w2 _ _) (by rfl) (by omega) (by have := H3.out.only.size; omega) (fun g3 cap3 w3 hown3 o3 hg3 => ?_)
          have H4 := Lib.hid (H3.out.growN R3.out hown3 o3 hg3)
          rw [eN] at H4
          have b4 := o3.heap H3.out.blk (fun hm => own_type_ne H3.out.oN H3.out.blk (by decide) _ (by simpa using hm) rfl)
          have c4 : w3.cell? ⟨p, 0, none⟩ = some vN := (cell_at 0 b4).trans rfl
          have f4 : w3.frozen? ⟨p, 0, none⟩ = false := free_at 0 b4
          refine hK.out _ _ trivial (fun hH => ?_)
          clear hK K H3 R3 hown3 o3 hg3 b4
          refine take_list (i := 8) (v := ?_) rfl (by kernel_rfl) (by kernel_rfl) (by kernel_rfl) (fun _ _ _ h => h) (Or.inl ⟨by rfl, ?_⟩) hH ?_
          rotate_left
          · ((intro w hSw; (try dsimp only at hSw); go_simp); try with_reducible rfl)
          simp only [Act.put, List.setIfInBounds_toArray, List.set_cons_zero, List.set_cons_succ]
          refine take_list (i := 9) (v := ?_) rfl (by kernel_rfl) (by kernel_rfl) (by kernel_rfl) (fun _ _ _ h => h) (Or.inl ⟨by rfl, ?_⟩) hH ?_
          rotate_left
          · ((intro w hSw; (try dsimp only at hSw); go_simp); try with_reducible rfl)
          simp only [Act.put, List.setIfInBounds_toArray, List.set_cons_zero, List.set_cons_succ]
          refine wpAnyH_ready (rs := [10]) (by kernel_rfl) (by simp) ?_
          refine ready_list rfl (fun K hK => ?_)
          go_simp
          refine hK.out _ _ trivial (fun hH => ?_)
          clear hK K
          refine wpAnyH_done (by kernel_rfl) ?_ _
          clear hH c4 f4
          go_wp2_with fail
          generalize w3.setCell ⟨p, 0, none⟩ (.slice (some ⟨g3, 0, none⟩) (k + 1) cap3) = w5 at H4 ⊢
          have HS := Lib.hid (H4.out.quiet ((Only.refl [] w5).drew))
          clear H4
          refine wp_region_held_drew (S := fun _ => True) (by kernel_rfl) trivial (fun hH => ?_)
          refine take_list (i := 0) (v := ?_) rfl (by kernel_rfl) (by kernel_rfl) (by kernel_rfl) (fun _ _ _ h => h) (Or.inl ⟨by rfl, ?_⟩) hH ?_
          rotate_left
          · ((intro w hSw; (try dsimp only at hSw); go_simp); try with_reducible rfl)
          simp only [Act.put, List.setIfInBounds_toArray, List.set_cons_zero, List.set_cons_succ]
          refine take_list (i := 1) (v := ?_) rfl (by kernel_rfl) (by kernel_rfl) (by kernel_rfl) (fun _ _ _ h => h) (Or.inl ⟨by rfl, ?_⟩) hH ?_
          rotate_left
          · ((intro w hSw; (try dsimp only at hSw); go_simp); try with_reducible rfl)
          simp only [Act.put, List.setIfInBounds_toArray, List.set_cons_zero, List.set_cons_succ]
          refine take_list (i := 2) (v := ?_) rfl (by kernel_rfl) (by kernel_rfl) (by kernel_rfl) (fun _ _ _ h => h) (Or.inl ⟨by rfl, ?_⟩) hH ?_
          rotate_left
          · ((intro w hSw; (try dsimp only at hSw); go_simp); try with_reducible rfl)
          simp only [Act.put, List.setIfInBounds_toArray, List.set_cons_zero, List.set_cons_succ]
          refine take_list (i := 3) (v := ?_) rfl (by kernel_rfl) (by kernel_rfl) (by kernel_rfl) (fun _ _ _ h => h) (Or.inl ⟨by rfl, ?_⟩) hH ?_
          rotate_left
          · ((intro w hSw; (try dsimp only at hSw); go_simp); try with_reducible rfl)
          simp only [Act.put, List.setIfInBounds_toArray, List.set_cons_zero, List.set_cons_succ]
          have c0 : w5.drew.cell? ⟨p, 1, none⟩ = some vS := (cell_at 1 HS.out.blk).trans rfl
          refine wpAnyH_ready (rs := [4, 5]) (by kernel_rfl) (by simp) ?_
          refine ready_two rfl rfl (fun K hK => ?_) (fun K hK => ?_) <;> go_simp
          ·
            refine hK.out _ _ trivial (fun hH => ?_)
            clear hK K
            clear c0
            refine wpAnyH_ready (rs := [5]) (by kernel_rfl) (by simp) ?_
            refine ready_list rfl (fun K hK => ?_)
            go_simp
            refine (rblank_any _).mono ?_
            rintro e w2 ⟨g2, rfl, b2, _, o2⟩
            have H2 := Lib.hid (HS.out.quiet o2)
            have R2 := Lib.hid (b2.rowB zeros_length 512 ⟨Nat.le_refl _, by unfold maxLen; omega⟩)
            have c0 : w2.cell? ⟨p, 1, none⟩ = some vS := (cell_at 1 H2.out.blk).trans rfl
            refine hK.out _ _ trivial (fun hH => ?_)
            clear hK K b2 o2 HS
            refine wpAnyH_ready (rs := [6]) (by kernel_rfl) (by simp) ?_
            refine ready_list rfl (fun K hK => ?_)
            go_simp
            have H3 := Lib.hid (H2.out.quiet ((Only.refl [] w2).alloc (.cells #[.slice (some ⟨g2, 0, none⟩) 512 512] 37)))
            have R3 := Lib.hid (R2.out.kept ((Only.refl [] w2).alloc (.cells #[.slice (some ⟨g2, 0, none⟩) 512 512] 37)) (foreign_nil _ _))
            have c0 : (w2.alloc (.cells #[.slice (some ⟨g2, 0, none⟩) 512 512] 37)).cell? ⟨p, 1, none⟩ = some vS := (cell_at 1 H3.out.blk).trans rfl
            refine hK.out _ _ trivial (fun hH => ?_)
            clear hK K H2 R2
            clear c0
            refine wpAnyH_ready (rs := [7]) (by kernel_rfl) (by simp) ?_
            refine ready_list rfl (fun K hK => ?_)
            refine step_append_rows rfl (.tmp 33) (.tmp 35) rfl w.heap.size _ rS (by rfl) H3.out.oS _ (by rfl) _ (heap_new_cell w2 _ _) (by rfl) (by omega) (by have := H3.out.only.size; omega) (fun g3 cap3 w3 hown3 o3 hg3 => ?_)
            have H4 := Lib.hid (H3.out.growS R3.out hown3 o3 hg3)
            rw [eS] at H4
            have b4 := o3.heap H3.out.blk (fun hm => own_type_ne H3.out.oS H3.out.blk (by decide) _ (by simpa using hm) rfl)
            have c4 : w3.cell? ⟨p, 1, none⟩ = some vS := (cell_at 1 b4).trans rfl
            have f4 : w3.frozen? ⟨p, 1, none⟩ = false := free_at 1 b4
            refine hK.out _ _ trivial (fun hH => ?_)
            clear hK K H3 R3 hown3 o3 hg3 b4
            refine take_list (i := 8) (v := ?_) rfl (by kernel_rfl) (by kernel_rfl) (by kernel_rfl) (fun _ _ _ h => h) (Or.inl ⟨by rfl, ?_⟩) hH ?_
            rotate_left
            · ((intro w hSw; (try dsimp only at hSw); go_simp); try with_reducible rfl)
            simp only [Act.put, List.setIfInBounds_toArray, List.set_cons_zero, List.set_cons_succ]
            refine take_list (i := 9) (v := ?_) rfl (by kernel_rfl) (by kernel_rfl) (by kernel_rfl) (fun _ _ _ h => h) (Or.inl ⟨by rfl, ?_⟩) hH ?_
            rotate_left
            · ((intro w hSw; (try dsimp only at hSw); go_simp); try with_reducible rfl)
            simp only [Act.put, List.setIfInBounds_toArray, List.set_cons_zero, List.set_cons_succ]
            refine wpAnyH_ready (rs := [10]) (by kernel_rfl) (by simp) ?_
            refine ready_list rfl (fun K hK => ?_)
            go_simp
            refine hK.out _ _ trivial (fun hH => ?_)
            clear hK K
            refine wpAnyH_done (by kernel_rfl) ?_ _
            clear hH c4 f4
            generalize w3.setCell ⟨p, 1, none⟩ (.slice (some ⟨g3, 0, none⟩) (k + 1) cap3) = w6 at H4 ⊢
            have H6 := H4
            clear H4
            have c6 : w6.cell? ⟨p, 2, none⟩ = some vC := (cell_at 2 H6.out.blk).trans rfl
            have HQ := Lib.hid (H6.out.quiet ((Only.refl [] w6).alloc (.cells #[.bool false] 4)))
            go_wp2_with (refine wpList_append_bool rfl (.tmp 43) (.tmp 44) rfl w.heap.size _ _ k (List.length_replicate ..) (by rfl) HQ.out.oC _ (by rfl) _ (heap_new_cell w6 _ _) (by rfl) (by omega) (by have := HQ.out.only.size; omega) ?_; intro g7 cap7 w7 hown7 o7
                         have H7 := Lib.hid (HQ.out.growC hown7 o7)
                         have b7 := o7.heap HQ.out.blk (fun hm => own_type_ne HQ.out.oC HQ.out.blk (by decide) _ (by simpa using hm) rfl)
                         have c7 : w7.cell? ⟨p, 2, none⟩ = some vC := (cell_at 2 b7).trans rfl
                         have f7 : w7.frozen? ⟨p, 2, none⟩ = false := free_at 2 b7
                         clear hown7 o7 b7)
            clear c6
            go_roundw
            case rel => exact ⟨k + 1, _, _, _, _, _, by omega, by go_num, H7.out, by rw [List.length_append, eN]; rfl, by rw [List.length_append, eS]; rfl⟩
            case measure => simp [intOf]; omega
          ·
            clear c0
            refine (rblank_any _).mono ?_
            rintro e w2 ⟨g2, rfl, b2, _, o2⟩
            have H2 := Lib.hid (HS.out.quiet o2)
            have R2 := Lib.hid (b2.rowB zeros_length 512 ⟨Nat.le_refl _, by unfold maxLen; omega⟩)
            have c0 : w2.cell? ⟨p, 1, none⟩ = some vS := (cell_at 1 H2.out.blk).trans rfl
            refine hK.out _ _ trivial (fun hH => ?_)
            clear hK K b2 o2 HS
            refine wpAnyH_ready (rs := [4, 6]) (by kernel_rfl) (by simp) ?_
            refine ready_two rfl rfl (fun K hK => ?_) (fun K hK => ?_) <;> go_simp
            ·
              refine hK.out _ _ trivial (fun hH => ?_)
              clear hK K
              refine wpAnyH_ready (rs := [6]) (by kernel_rfl) (by simp) ?_
              refine ready_list rfl (fun K hK => ?_)
              go_simp
              have H3 := Lib.hid (H2.out.quiet ((Only.refl [] w2).alloc (.cells #[.slice (some ⟨g2, 0, none⟩) 512 512] 37)))
              have R3 := Lib.hid (R2.out.kept ((Only.refl [] w2).alloc (.cells #[.slice (some ⟨g2, 0, none⟩) 512 512] 37)) (foreign_nil _ _))
              have c0 : (w2.alloc (.cells #[.slice (some ⟨g2, 0, none⟩) 512 512] 37)).cell? ⟨p, 1, none⟩ = some vS := (cell_at 1 H3.out.blk).trans rfl
              refine hK.out _ _ trivial (fun hH => ?_)
              clear hK K H2 R2
              clear c0
              refine wpAnyH_ready (rs := [7]) (by kernel_rfl) (by simp) ?_
              refine ready_list rfl (fun K hK => ?_)
              refine step_append_rows rfl (.tmp 33) (.tmp 35) rfl w.heap.size _ rS (by rfl) H3.out.oS _ (by rfl) _ (heap_new_cell w2 _ _) (by rfl) (by omega) (by have := H3.out.only.size; omega) (fun g3 cap3 w3 hown3 o3 hg3 => ?_)
              have H4 := Lib.hid (H3.out.growS R3.out hown3 o3 hg3)
              rw [eS] at H4
              have b4 := o3.heap H3.out.blk (fun hm => own_type_ne H3.out.oS H3.out.blk (by decide) _ (by simpa using hm) rfl)
              have c4 : w3.cell? ⟨p, 1, none⟩ = some vS := (cell_at 1 b4).trans rfl
              have f4 : w3.frozen? ⟨p, 1, none⟩ = false := free_at 1 b4
              refine hK.out _ _ trivial (fun hH => ?_)
              clear hK K H3 R3 hown3 o3 hg3 b4
              refine take_list (i := 8) (v := ?_) rfl (by kernel_rfl) (by kernel_rfl) (by kernel_rfl) (fun _ _ _ h => h) (Or.inl ⟨by rfl, ?_⟩) hH ?_
              rotate_left
              · ((intro w hSw; (try dsimp only at hSw); go_simp); try with_reducible rfl)
              simp only [Act.put, List.setIfInBounds_toArray, List.set_cons_zero, List.set_cons_succ]
              refine take_list (i := 9) (v := ?_) rfl (by kernel_rfl) (by kernel_rfl) (by kernel_rfl) (fun _ _ _ h => h) (Or.inl ⟨by rfl, ?_⟩) hH ?_
              rotate_left
              · ((intro w hSw; (try dsimp only at hSw); go_simp); try with_reducible rfl)
              simp only [Act.put, List.setIfInBounds_toArray, List.set_cons_zero, List.set_cons_succ]
              refine wpAnyH_ready (rs := [10]) (by kernel_rfl) (by simp) ?_
              refine ready_list rfl (fun K hK => ?_)
              go_simp
              refine hK.out _ _ trivial (fun hH => ?_)
              clear hK K
              refine wpAnyH_done (by kernel_rfl) ?_ _
              clear hH c4 f4
              generalize w3.setCell ⟨p, 1, none⟩ (.slice (some ⟨g3, 0, none⟩) (k + 1) cap3) = w6 at H4 ⊢
              have H6 := H4
              clear H4
              have c6 : w6.cell? ⟨p, 2, none⟩ = some vC := (cell_at 2 H6.out.blk).trans rfl
              have HQ := Lib.hid (H6.out.quiet ((Only.refl [] w6).alloc (.cells #[.bool false] 4)))
              go_wp2_with (refine wpList_append_bool rfl (.tmp 43) (.tmp 44) rfl w.heap.size _ _ k (List.length_replicate ..) (by rfl) HQ.out.oC _ (by rfl) _ (heap_new_cell w6 _ _) (by rfl) (by omega) (by have := HQ.out.only.size; omega) ?_; intro g7 cap7 w7 hown7 o7
                           have H7 := Lib.hid (HQ.out.growC hown7 o7)
                           have b7 := o7.heap HQ.out.blk (fun hm => own_type_ne HQ.out.oC HQ.out.blk (by decide) _ (by simpa using hm) rfl)
                           have c7 : w7.cell? ⟨p, 2, none⟩ = some vC := (cell_at 2 b7).trans rfl
                           have f7 : w7.frozen? ⟨p, 2, none⟩ = false := free_at 2 b7
                           clear hown7 o7 b7)
              clear c6
              go_roundw
              case rel => exact ⟨k + 1, _, _, _, _, _, by omega, by go_num, H7.out, by rw [List.length_append, eN]; rfl, by rw [List.length_append, eS]; rfl⟩
              case measure => simp [intOf]; omega
            ·
              have H3 := Lib.hid (H2.out.quiet ((Only.refl [] w2).alloc (.cells #[.slice (some ⟨g2, 0, none⟩) 512 512] 37)))
              have R3 := Lib.hid (R2.out.kept ((Only.refl [] w2).alloc (.cells #[.slice (some ⟨g2, 0, none⟩) 512 512] 37)) (foreign_nil _ _))
              have c0 : (w2.alloc (.cells #[.slice (some ⟨g2, 0, none⟩) 512 512] 37)).cell? ⟨p, 1, none⟩ = some vS := (cell_at 1 H3.out.blk).trans rfl
              refine hK.out _ _ trivial (fun hH => ?_)
              clear hK K H2 R2
              refine wpAnyH_ready (rs := [4]) (by kernel_rfl) (by simp) ?_
              refine ready_list rfl (fun K hK => ?_)
              go_simp
              refine hK.out _ _ trivial (fun hH => ?_)
              clear hK K
              clear c0
              refine wpAnyH_ready (rs := [7]) (by kernel_rfl) (by simp) ?_
              refine ready_list rfl (fun K hK => ?_)
              refine step_append_rows rfl (.tmp 33) (.tmp 35) rfl w.heap.size _ rS (by rfl) H3.out.oS _ (by rfl) _ (heap_new_cell w2 _ _) (by rfl) (by omega) (by have := H3.out.only.size; omega) (fun g3 cap3 w3 hown3 o3 hg3 => ?_)
              have H4 := Lib.hid (H3.out.growS R3.out hown3 o3 hg3)
              rw [eS] at H4
              have b4 := o3.heap H3.out.blk (fun hm => own_type_ne H3.out.oS H3.out.blk (by decide) _ (by simpa using hm) rfl)
              have c4 : w3.cell? ⟨p, 1, none⟩ = some vS := (cell_at 1 b4).trans rfl
              have f4 : w3.frozen? ⟨p, 1, none⟩ = false := free_at 1 b4
              refine hK.out _ _ trivial (fun hH => ?_)
              clear hK K H3 R3 hown3 o3 hg3 b4
              refine take_list (i := 8) (v := ?_) rfl (by kernel_rfl) (by kernel_rfl) (by kernel_rfl) (fun _ _ _ h => h) (Or.inl ⟨by rfl, ?_⟩) hH ?_
              rotate_left
              · ((intro w hSw; (try dsimp only at hSw); go_simp); try with_reducible rfl)
              simp only [Act.put, List.setIfInBounds_toArray, List.set_cons_zero, List.set_cons_succ]
              refine take_list (i := 9) (v := ?_) rfl (by kernel_rfl) (by kernel_rfl) (by kernel_rfl) (fun _ _ _ h => h) (Or.inl ⟨by rfl, ?_⟩) hH ?_
              rotate_left
              · ((intro w hSw; (try dsimp only at hSw); go_simp); try with_reducible rfl)
              simp only [Act.put, List.setIfInBounds_toArray, List.set_cons_zero, List.set_cons_succ]
              refine wpAnyH_ready (rs := [10]) (by kernel_rfl) (by simp) ?_
              refine ready_list rfl (fun K hK => ?_)
              go_simp
              refine hK.out _ _ trivial (fun hH => ?_)
              clear hK K
              refine wpAnyH_done (by kernel_rfl) ?_ _
              clear hH c4 f4
              generalize w3.setCell ⟨p, 1, none⟩ (.slice (some ⟨g3, 0, none⟩) (k + 1) cap3) = w6 at H4 ⊢
              have H6 := H4
              clear H4
              have c6 : w6.cell? ⟨p, 2, none⟩ = some vC := (cell_at 2 H6.out.blk).trans rfl
              have HQ := Lib.hid (H6.out.quiet ((Only.refl [] w6).alloc (.cells #[.bool false] 4)))
              go_wp2_with (refine wpList_append_bool rfl (.tmp 43) (.tmp 44) rfl w.heap.size _ _ k (List.length_replicate ..) (by rfl) HQ.out.oC _ (by rfl) _ (heap_new_cell w6 _ _) (by rfl) (by omega) (by have := HQ.out.only.size; omega) ?_; intro g7 cap7 w7 hown7 o7
                           have H7 := Lib.hid (HQ.out.growC hown7 o7)
                           have b7 := o7.heap HQ.out.blk (fun hm => own_type_ne HQ.out.oC HQ.out.blk (by decide) _ (by simpa using hm) rfl)
                           have c7 : w7.cell? ⟨p, 2, none⟩ = some vC := (cell_at 2 b7).trans rfl
                           have f7 : w7.frozen? ⟨p, 2, none⟩ = false := free_at 2 b7
                           clear hown7 o7 b7)
              clear c6
              go_roundw
              case rel => exact ⟨k + 1, _, _, _, _, _, by omega, by go_num, H7.out, by rw [List.length_append, eN]; rfl, by rw [List.length_append, eS]; rfl⟩
              case measure => simp [intOf]; omega
    · obtain rfl : k = n := by omega
      obtain ⟨b, rfl, hb, hge⟩ := hs.done h1 h2 eN eS
      have HB := Lib.hid hb
      have HO := Lib.hid hs.only
      have HGE := Lib.hid hge
      clear hs hb hge
      go_wp2_with fail
      go_ret2
      exact ⟨b, rfl, HB.out, HGE.out, HO.out⟩
end Go.Proofs.Ytdmkmjlkogkmgaa
