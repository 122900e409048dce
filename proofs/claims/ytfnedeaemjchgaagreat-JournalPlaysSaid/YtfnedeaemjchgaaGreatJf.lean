/- A model takes a record. -/
import Derived.Test.YtfnedeaemjchgaaGreatJe
import Derived.Test.YtfnedeaemjchgaaGreatW2
namespace Go.Proofs.YtfnedeaemjchgaaGreat
open Go.RowKit Go.Maps
set_option linter.unusedSimpArgs false
set_option linter.unusedVariables false

theorem own_none (w : World) : Own (w.alloc (.cells #[] 5)) 0 (.slice (some ⟨w.heap.size, 0, none⟩) 0 0) [] := ⟨rfl, .inr ⟨w.heap.size, 0, #[], rfl, Nat.zero_le _, heap_new w _, Nat.le_refl _, by unfold maxLen; omega, rfl, rfl⟩⟩
set_option maxRecDepth 100000 in
set_option maxHeartbeats 1500000 in
theorem mput_yes {w : World} {m p : Nat} {a : DA} {vr vt vm rv : Value} {gs : List Value} {M : ML} {r : Sec} (h : MM w m a p vr vt vm gs M) (hd : M.dead = false) (hf : M.Fit) (hr : Bytes w rv r) (others : Int) (ho : 0 ≤ others ∧ others ≤ 1152921504606846976) (hl1 : 1 ≤ r.length) (hl2 : r.length ≤ 4096) (hroom : ¬ M.free - others < (r.length : Int) + 2) (hcap : gs.length ≤ 1048575) :
    Calls Tryz.prog 24 #[.pointer (some ⟨m, 0, none⟩), rv, .int .i64 others] w fun e w' => ∃ vr' vt' g, e = .returned (.tuple #[.int .i64 ((M.recs.length + 1 : Nat) : Int), .int .i64 0]) ∧ MM w' m a p vr' vt' vm (gs ++ [g]) { M with recs := M.recs ++ [r] } ∧
      Only (m :: vr.ownBlock.toList ++ vt.ownBlock.toList) w w' ∧ (∀ k, vr'.ownBlock = some k → vr.ownBlock = some k ∨ w.heap.size ≤ k) ∧ (∀ k, vt'.ownBlock = some k → vt.ownBlock = some k ∨ w.heap.size ≤ k) ∧ ∀ k, g.ownBlock = some k → w.heap.size ≤ k := by
  have c9 : w.cell? ⟨m, 9, none⟩ = some (.bool M.dead) := cell_at 9 h.blk
  rw [hd] at c9
  obtain ⟨ra, rc, rfl, -⟩ := id hr
  obtain ⟨qa, qc, rfl⟩ := h.shapeR
  obtain ⟨_, tb, toff, tc, hvt, -⟩ := h.starts.ints.at_ (msts_get M.recs (i := M.recs.length) (Nat.le_refl _))
  subst hvt
  have hL1 := msts_length M.recs
  have hsn := msts_snoc M.recs r
  have hml : M.recs.length ≤ 1048575 := by have := h.hlen; omega
  have hfree := mfree_any h hf.f1 hf.f2 hf.len hf.n M.free rfl
  have hb := hf.free
  have hflen := hf.len
  generalize M.free = z at hfree hroom hb
  have h0 : ¬ r.length = 0 := by omega
  have h1 : ¬ (r.length : Int) = 0 := by omega
  have h2 : ¬ (4096 : Int) < (r.length : Int) := by omega
  have H := Lib.hid h
  have HR := Lib.hid hr
  clear h hd hf hr
  go_enter Tryz.func24, Tryz.ntmps24
  go_wp2_with fail
  refine hfree.mono ?_
  rintro e w2 ⟨rfl, o2⟩
  have X2 := Lib.hid (H.out.mx.quiet o2)
  have R2 := Lib.hid (HR.out.kept o2 (clean_nil _))
  have O2 := Lib.hid o2
  clear o2 HR hfree c9
  go_wp2_with fail
  have o3 : Only [] w2 w2.drew := (Only.refl [] w2).drew
  have X3 := Lib.hid (X2.out.quiet o3)
  have R3 := Lib.hid (R2.out.kept o3 (clean_nil _))
  have O3 := Lib.hid (O2.out.trans o3 (by simp))
  have c3 : w2.drew.cell? ⟨m, 3, none⟩ = some (.slice qa gs.length qc) := cell_at 3 X3.out.blk
  refine wp_region_B (S := fun w' => w'.cell? ⟨m, 3, none⟩ = some (.slice qa gs.length qc)) [0, 1, 2, 3, 4, 5, 6, 7, 8, 9, 10, 11] (by kernel_rfl) c3 (fun hH => ?_)
  clear o3 X2 R2 O2
  generalize w2.drew = w3 at *
  refine takeB_list (i := 0) (v := ?_) rfl (by kernel_rfl) (by kernel_rfl) (by kernel_rfl) (by kernel_rfl) (fun _ _ _ h => h) (Or.inl ⟨by rfl, ?_⟩) hH ?_
  rotate_left
  · ((intro w hSw; (try dsimp only at hSw); go_simp); try with_reducible rfl)
  simp only [Act.put, List.setIfInBounds_toArray, List.set_cons_zero, List.set_cons_succ]
  refine takeB_list (i := 1) (v := ?_) rfl (by kernel_rfl) (by kernel_rfl) (by kernel_rfl) (by kernel_rfl) (fun _ _ _ h => h) (Or.inl ⟨by rfl, ?_⟩) hH ?_
  rotate_left
  · ((intro w hSw; (try dsimp only at hSw); go_simp); try with_reducible rfl)
  simp only [Act.put, List.setIfInBounds_toArray, List.set_cons_zero, List.set_cons_succ]
  refine takeB_list (i := 2) (v := ?_) rfl (by kernel_rfl) (by kernel_rfl) (by kernel_rfl) (by kernel_rfl) (fun _ _ _ h => h) (Or.inl ⟨by rfl, ?_⟩) hH ?_
  rotate_left
  · ((intro w hSw; (try dsimp only at hSw); go_simp); try with_reducible rfl)
  simp only [Act.put, List.setIfInBounds_toArray, List.set_cons_zero, List.set_cons_succ]
  refine takeB_list (i := 3) (v := ?_) rfl (by kernel_rfl) (by kernel_rfl) (by kernel_rfl) (by kernel_rfl) (fun _ _ _ h => h) (Or.inl ⟨by rfl, ?_⟩) hH ?_
  rotate_left
  · ((intro w hSw; (try dsimp only at hSw); go_simp); try with_reducible rfl)
  simp only [Act.put, List.setIfInBounds_toArray, List.set_cons_zero, List.set_cons_succ]
  refine takeB_list (i := 4) (v := ?_) rfl (by kernel_rfl) (by kernel_rfl) (by kernel_rfl) (by kernel_rfl) (fun _ _ _ h => h) (Or.inl ⟨by rfl, ?_⟩) hH ?_
  rotate_left
  · ((intro w hSw; (try dsimp only at hSw); go_simp); try with_reducible rfl)
  simp only [Act.put, List.setIfInBounds_toArray, List.set_cons_zero, List.set_cons_succ]
  refine takeB_list (i := 6) (v := ?_) rfl (by kernel_rfl) (by kernel_rfl) (by kernel_rfl) (by kernel_rfl) (fun _ _ _ h => h) (Or.inl ⟨by rfl, ?_⟩) hH ?_
  rotate_left
  · ((intro w hSw; (try dsimp only at hSw); go_simp); try with_reducible rfl)
  simp only [Act.put, List.setIfInBounds_toArray, List.set_cons_zero, List.set_cons_succ]
  refine readyB_in (i := 5) (by kernel_rfl) rfl (fun K hK => ?_)
  go_simp
  have o4 : Only [] w3 (w3.alloc (.cells #[] 5)) := (Only.refl [] w3).alloc _
  have E4 := own_none w3
  have R4 := R3.out.kept o4 (clean_nil _)
  have c3 : (w3.alloc (.cells #[] 5)).cell? ⟨m, 3, none⟩ = some (.slice qa gs.length qc) := cell_kept o4 c3 (by simp)
  have Z4 := o4.size
  refine hK.out _ _ c3 (fun hH => ?_)
  clear hK K
  have O4 := Lib.hid o4
  have E4' := Lib.hid E4
  have R4' := Lib.hid R4
  clear o4 E4 R4
  refine readyB_in (i := 7) (by kernel_rfl) rfl (fun K hK => ?_)
  refine step_append_any (by rfl) (.tmp 36) (.tmp 37) (by rfl) 0 _ [] (by rfl) E4'.out _ r (by rfl) R4'.out r.length (by simp) r (by simp) (by omega) (Nat.zero_le _) (fun a5 k5 w5 h5 x5 => ?_)
  have o5 : Only [] w3 w5 := O4.out.trans x5.only (fun k hk => .inr (by
    have h9 := hk
    simp [Value.ownBlock] at h9
    omega))
  have s5 : ∀ k, (Value.slice a5 r.length k5).ownBlock = some k → w3.heap.size ≤ k := fun k hk => by
    rcases x5.src k hk with e | e
    · have h9 := e
      simp [Value.ownBlock] at h9
      omega
    · omega
  have X5 := Lib.hid (X3.out.quiet o5)
  have H5 := Lib.hid h5
  have S5 := Lib.hid s5
  have O5 := Lib.hid o5
  have c3 : w5.cell? ⟨m, 3, none⟩ = some (.slice qa gs.length qc) := cell_at 3 X5.out.blk
  refine hK.out _ _ c3 (fun hH => ?_)
  clear hK K h5 x5 o5 s5 E4' R4' O4 R3 Z4
  refine readyB_in (i := 8) (by kernel_rfl) rfl (fun K hK => ?_)
  go_simp
  have o6 : Only [] w5 (w5.alloc (.cells #[.slice a5 r.length k5] 27)) := (Only.refl [] w5).alloc _
  have X6 := Lib.hid (X5.out.quiet o6)
  have H6 := Lib.hid (H5.out.quiet o6)
  have O6 := Lib.hid (O5.out.trans o6 (by simp))
  have k6 := heap_new_cell w5 (.slice a5 r.length k5) 27
  have c3 : (w5.alloc (.cells #[.slice a5 r.length k5] 27)).cell? ⟨m, 3, none⟩ = some (.slice qa gs.length qc) := cell_at 3 X6.out.blk
  refine hK.out _ _ c3 (fun hH => ?_)
  clear hK K o6 X5 H5 O5
  have K6 := Lib.hid k6
  clear k6
  refine readyB_in (i := 9) (by kernel_rfl) rfl (fun K hK => ?_)
  refine step_append_row (by rfl) (.tmp 35) (.tmp 39) (by rfl) 0 _ gs (by rfl) X6.out.recs w5.heap.size 1 (by rfl) (.slice a5 r.length k5) K6.out rfl (by omega) (Nat.zero_le _) (fun a7 k7 w7 h7 x7 => ?_)
  have hm7 : m ∉ (Value.slice qa gs.length qc).ownBlock.toList := fun hk => absurd (owns_ty X6.out.recs (by simpa using hk) X6.out.blk) (by decide)
  have b7 := x7.only.heap X6.out.blk hm7
  have c3 : w7.cell? ⟨m, 3, none⟩ = some (.slice qa gs.length qc) := cell_at 3 b7
  have f3 := free_at 3 b7
  have X7 := Lib.hid x7
  have H7 := Lib.hid h7
  refine hK.out _ _ c3 (fun hH => ?_)
  clear hK K x7 h7 b7 hm7
  refine takeB_list (i := 10) (v := ?_) rfl (by kernel_rfl) (by kernel_rfl) (by kernel_rfl) (by kernel_rfl) (fun _ _ _ h => h) (Or.inl ⟨by rfl, ?_⟩) hH ?_
  rotate_left
  · ((intro w hSw; (try dsimp only at hSw); go_simp); try with_reducible rfl)
  simp only [Act.put, List.setIfInBounds_toArray, List.set_cons_zero, List.set_cons_succ]
  refine takeB_list (i := 11) (v := ?_) rfl (by kernel_rfl) (by kernel_rfl) (by kernel_rfl) (by kernel_rfl) (fun _ _ _ h => h) (Or.inl ⟨by rfl, ?_⟩) hH ?_
  rotate_left
  · ((intro w hSw; (try dsimp only at hSw); go_simp); try with_reducible rfl)
  simp only [Act.put, List.setIfInBounds_toArray, List.set_cons_zero, List.set_cons_succ]
  refine readyB_out (i := 12) (by kernel_rfl) (by kernel_rfl) rfl (fun K hK => ?_)
  go_simp
  refine hK.out _ _ ?_
  clear hK K f3 c3 hH K6
  obtain ⟨x8, o8⟩ := X6.out.row (r := r) H6.out X7.out H7.out
  have s8 : ∀ k, (Value.slice a7 (gs.length + 1) k7).ownBlock = some k → (Value.slice qa gs.length qc).ownBlock = some k ∨ w3.heap.size ≤ k := fun k hk => (X7.out.src k hk).imp id (fun e => Nat.le_trans O6.out.size e)
  have X8 := Lib.hid x8
  have O8 := Lib.hid ((O6.out.mono (T := m :: (Value.slice qa gs.length qc).ownBlock.toList) (by simp)).trans o8 (fun k hk => .inl hk))
  have S8 := Lib.hid s8
  clear x8 o8 s8 X6 H6 X7 H7 O6
  generalize w7.setCell ⟨m, 3, none⟩ (.slice a7 (gs.length + 1) k7) = w8 at X8 O8 ⊢
  refine wpAnyB_done (by kernel_rfl) ?_ _
  obtain ⟨_, tb2, toff2, tc2, hvt, x0⟩ := X8.out.starts.ints.at_ (msts_get M.recs (i := M.recs.length) (Nat.le_refl _))
  cases hvt
  rw [pos_all (Nat.le_refl _)] at x0
  obtain ⟨T0, hT0⟩ : ∃ T0 : Nat, T0 = (flat M.recs).length := ⟨_, rfl⟩
  obtain ⟨T1, hT1⟩ : ∃ T1 : Nat, T1 = (flat M.recs).length + (r.length + 2) := ⟨_, rfl⟩
  obtain ⟨L, hL⟩ : ∃ L : Nat, L = M.recs.length := ⟨_, rfl⟩
  rw [← hT0] at x0 hflen
  rw [← hL] at x0 hml hL1
  rw [← hT1] at hsn
  have HX := Lib.hid X8.out.starts
  have c4 : w8.cell? ⟨m, 4, none⟩ = some (.slice (some ⟨tb, toff, none⟩) (msts M.recs).length tc) := cell_at 4 X8.out.blk
  have HGET := Lib.hid (show (msts M.recs)[L]? = some (T0 : Int) from by rw [hL, msts_get M.recs (Nat.le_refl _), pos_all (Nat.le_refl _), hT0])
  generalize hLe : (msts M.recs).length = L1 at HX c4 hL1 X8 H ⊢
  have HLE := Lib.hid (show (msts M.recs).length + 1 = L1 + 1 by rw [hLe])
  clear hLe
  have v1 : IntKind.i64.wrap ((L1 : Int) - 1) = (L : Int) := by rw [IntKind.wrap_i64]; omega
  have v2 : IntKind.i64.wrap ((T0 : Int) + (r.length : Int)) = (T0 : Int) + (r.length : Int) := by rw [IntKind.wrap_i64]; omega
  have v3 : IntKind.i64.wrap ((T0 : Int) + (r.length : Int) + 2) = (T1 : Int) := by rw [IntKind.wrap_i64]; omega
  have v4 : (L : Int) < (L1 : Int) := by omega
  have v5 : (0 : Int) ≤ (L : Int) := by omega
  have wf1 := WalkArith.wf_i64 (n := (T1 : Int)) (by omega)
  have HL1 := Lib.hid (show L1 + 1 = L1 + [(T1 : Int)].length from rfl)
  have HSN := Lib.hid hsn
  have hlb : L1 + 1 ≤ 1099511627776 := by omega
  have HLL := Lib.hid hL
  clear hT0 hT1 hL hL1 hsn hroom hb
  go_wp2_with fail
  have o9 : Only [] w8 w8.drew := (Only.refl [] w8).drew
  have X9 := Lib.hid (X8.out.quiet o9)
  have O9 := Lib.hid (O8.out.trans o9 (by simp))
  have c4 : w8.drew.cell? ⟨m, 4, none⟩ = some (.slice (some ⟨tb, toff, none⟩) L1 tc) := cell_kept o9 c4 (by simp)
  have x0 : w8.drew.cell? ⟨tb, toff + L, none⟩ = some (.int .i64 T0) := cell_kept o9 x0 (by simp)
  refine wp_region_B (S := fun w' => w'.cell? ⟨m, 4, none⟩ = some (.slice (some ⟨tb, toff, none⟩) L1 tc) ∧ w'.cell? ⟨tb, toff + L, none⟩ = some (.int .i64 T0)) [0, 1, 2, 3, 4, 5, 6, 7, 8, 9, 10, 11, 12, 13, 14, 15, 16, 17, 18, 19, 20, 21, 22, 23, 24] (by kernel_rfl) ⟨c4, x0⟩ (fun hH => ?_)
  clear o9 X8 O8 HX
  generalize w8.drew = w9 at *
  refine takeB_list (i := 0) (v := ?_) rfl (by kernel_rfl) (by kernel_rfl) (by kernel_rfl) (by kernel_rfl) (fun _ _ _ h => h) (Or.inl ⟨by rfl, ?_⟩) hH ?_
  rotate_left
  · ((intro w hSw; (try dsimp only at hSw); go_simp); try with_reducible rfl)
  simp only [Act.put, List.setIfInBounds_toArray, List.set_cons_zero, List.set_cons_succ]
  refine takeB_list (i := 1) (v := ?_) rfl (by kernel_rfl) (by kernel_rfl) (by kernel_rfl) (by kernel_rfl) (fun _ _ _ h => h) (Or.inl ⟨by rfl, ?_⟩) hH ?_
  rotate_left
  · ((intro w hSw; (try dsimp only at hSw); go_simp); try with_reducible rfl)
  simp only [Act.put, List.setIfInBounds_toArray, List.set_cons_zero, List.set_cons_succ]
  refine takeB_list (i := 2) (v := ?_) rfl (by kernel_rfl) (by kernel_rfl) (by kernel_rfl) (by kernel_rfl) (fun _ _ _ h => h) (Or.inl ⟨by rfl, ?_⟩) hH ?_
  rotate_left
  · ((intro w hSw; (try dsimp only at hSw); go_simp); try with_reducible rfl)
  simp only [Act.put, List.setIfInBounds_toArray, List.set_cons_zero, List.set_cons_succ]
  refine takeB_list (i := 3) (v := ?_) rfl (by kernel_rfl) (by kernel_rfl) (by kernel_rfl) (by kernel_rfl) (fun _ _ _ h => h) (Or.inl ⟨by rfl, ?_⟩) hH ?_
  rotate_left
  · ((intro w hSw; (try dsimp only at hSw); go_simp); try with_reducible rfl)
  simp only [Act.put, List.setIfInBounds_toArray, List.set_cons_zero, List.set_cons_succ]
  refine takeB_list (i := 4) (v := ?_) rfl (by kernel_rfl) (by kernel_rfl) (by kernel_rfl) (by kernel_rfl) (fun _ _ _ h => h) (Or.inl ⟨by rfl, ?_⟩) hH ?_
  rotate_left
  · ((intro w hSw; (try dsimp only at hSw); go_simp); try with_reducible rfl)
  simp only [Act.put, List.setIfInBounds_toArray, List.set_cons_zero, List.set_cons_succ]
  refine takeB_list (i := 5) (v := ?_) rfl (by kernel_rfl) (by kernel_rfl) (by kernel_rfl) (by kernel_rfl) (fun _ _ _ h => h) (Or.inl ⟨by rfl, ?_⟩) hH ?_
  rotate_left
  · ((intro w hSw; (try dsimp only at hSw); go_simp); try with_reducible rfl)
  simp only [Act.put, List.setIfInBounds_toArray, List.set_cons_zero, List.set_cons_succ]
  refine takeB_list (i := 6) (v := ?_) rfl (by kernel_rfl) (by kernel_rfl) (by kernel_rfl) (by kernel_rfl) (fun _ _ _ h => h) (Or.inl ⟨by rfl, ?_⟩) hH ?_
  rotate_left
  · ((intro w hSw; (try dsimp only at hSw); go_simp); try with_reducible rfl)
  simp only [Act.put, List.setIfInBounds_toArray, List.set_cons_zero, List.set_cons_succ]
  refine takeB_list (i := 7) (v := ?_) rfl (by kernel_rfl) (by kernel_rfl) (by kernel_rfl) (by kernel_rfl) (fun _ _ _ h => h) (Or.inl ⟨by rfl, ?_⟩) hH ?_
  rotate_left
  · ((intro w hSw; (try dsimp only at hSw); go_simp); try with_reducible rfl)
  simp only [Act.put, List.setIfInBounds_toArray, List.set_cons_zero, List.set_cons_succ]
  refine takeB_list (i := 8) (v := ?_) rfl (by kernel_rfl) (by kernel_rfl) (by kernel_rfl) (by kernel_rfl) (fun _ _ _ h => h) (Or.inl ⟨by rfl, ?_⟩) hH ?_
  rotate_left
  · ((intro w hSw; (try dsimp only at hSw); go_simp); try with_reducible rfl)
  simp only [Act.put, List.setIfInBounds_toArray, List.set_cons_zero, List.set_cons_succ]
  refine takeB_list (i := 9) (v := ?_) rfl (by kernel_rfl) (by kernel_rfl) (by kernel_rfl) (by kernel_rfl) (fun _ _ _ h => h) (Or.inl ⟨by rfl, ?_⟩) hH ?_
  rotate_left
  · ((intro w hSw; (try dsimp only at hSw); go_simp); try with_reducible rfl)
  simp only [Act.put, List.setIfInBounds_toArray, List.set_cons_zero, List.set_cons_succ]
  refine takeB_list (i := 10) (v := ?_) rfl (by kernel_rfl) (by kernel_rfl) (by kernel_rfl) (by kernel_rfl) (fun _ _ _ h => h) (Or.inl ⟨by rfl, ?_⟩) hH ?_
  rotate_left
  · ((intro w hSw; (try dsimp only at hSw); go_simp); try with_reducible rfl)
  simp only [Act.put, List.setIfInBounds_toArray, List.set_cons_zero, List.set_cons_succ]
  refine takeB_list (i := 11) (v := ?_) rfl (by kernel_rfl) (by kernel_rfl) (by kernel_rfl) (by kernel_rfl) (fun _ _ _ h => h) (Or.inl ⟨by rfl, ?_⟩) hH ?_
  rotate_left
  · ((intro w hSw; (try dsimp only at hSw); go_simp); try with_reducible rfl)
  simp only [Act.put, List.setIfInBounds_toArray, List.set_cons_zero, List.set_cons_succ]
  refine takeB_list (i := 12) (v := ?_) rfl (by kernel_rfl) (by kernel_rfl) (by kernel_rfl) (by kernel_rfl) (fun _ _ _ h => h) (Or.inl ⟨by rfl, ?_⟩) hH ?_
  rotate_left
  · ((intro w hSw; (try dsimp only at hSw); go_simp); try with_reducible rfl)
  simp only [Act.put, List.setIfInBounds_toArray, List.set_cons_zero, List.set_cons_succ]
  refine takeB_list (i := 13) (v := ?_) rfl (by kernel_rfl) (by kernel_rfl) (by kernel_rfl) (by kernel_rfl) (fun _ _ _ h => h) (Or.inl ⟨by rfl, ?_⟩) hH ?_
  rotate_left
  · ((intro w hSw; (try dsimp only at hSw); go_simp); try with_reducible rfl)
  simp only [Act.put, List.setIfInBounds_toArray, List.set_cons_zero, List.set_cons_succ]
  refine takeB_list (i := 14) (v := ?_) rfl (by kernel_rfl) (by kernel_rfl) (by kernel_rfl) (by kernel_rfl) (fun _ _ _ h => h) (Or.inl ⟨by rfl, ?_⟩) hH ?_
  rotate_left
  · ((intro w hSw; (try dsimp only at hSw); go_simp); try with_reducible rfl)
  simp only [Act.put, List.setIfInBounds_toArray, List.set_cons_zero, List.set_cons_succ]
  refine takeB_list (i := 15) (v := ?_) rfl (by kernel_rfl) (by kernel_rfl) (by kernel_rfl) (by kernel_rfl) (fun _ _ _ h => h) (Or.inl ⟨by rfl, ?_⟩) hH ?_
  rotate_left
  · ((intro w hSw; (try dsimp only at hSw); go_simp); try with_reducible rfl)
  simp only [Act.put, List.setIfInBounds_toArray, List.set_cons_zero, List.set_cons_succ]
  refine takeB_list (i := 16) (v := ?_) rfl (by kernel_rfl) (by kernel_rfl) (by kernel_rfl) (by kernel_rfl) (fun _ _ _ h => h) (Or.inl ⟨by rfl, ?_⟩) hH ?_
  rotate_left
  · ((intro w hSw; (try dsimp only at hSw); go_simp); try with_reducible rfl)
  simp only [Act.put, List.setIfInBounds_toArray, List.set_cons_zero, List.set_cons_succ]
  refine takeB_list (i := 17) (v := ?_) rfl (by kernel_rfl) (by kernel_rfl) (by kernel_rfl) (by kernel_rfl) (fun _ _ _ h => h) (Or.inl ⟨by rfl, ?_⟩) hH ?_
  rotate_left
  · ((intro w hSw; (try dsimp only at hSw); go_simp); try with_reducible rfl)
  simp only [Act.put, List.setIfInBounds_toArray, List.set_cons_zero, List.set_cons_succ]
  refine takeB_list (i := 18) (v := ?_) rfl (by kernel_rfl) (by kernel_rfl) (by kernel_rfl) (by kernel_rfl) (fun _ _ _ h => h) (Or.inl ⟨by rfl, ?_⟩) hH ?_
  rotate_left
  · ((intro w hSw; (try dsimp only at hSw); go_simp); try with_reducible rfl)
  simp only [Act.put, List.setIfInBounds_toArray, List.set_cons_zero, List.set_cons_succ]
  refine takeB_list (i := 19) (v := ?_) rfl (by kernel_rfl) (by kernel_rfl) (by kernel_rfl) (by kernel_rfl) (fun _ _ _ h => h) (Or.inl ⟨by rfl, ?_⟩) hH ?_
  rotate_left
  · ((intro w hSw; (try dsimp only at hSw); go_simp); try with_reducible rfl)
  simp only [Act.put, List.setIfInBounds_toArray, List.set_cons_zero, List.set_cons_succ]
  refine takeB_list (i := 20) (v := ?_) rfl (by kernel_rfl) (by kernel_rfl) (by kernel_rfl) (by kernel_rfl) (fun _ _ _ h => h) (Or.inl ⟨by rfl, ?_⟩) hH ?_
  rotate_left
  · ((intro w hSw; (try dsimp only at hSw); go_simp); try with_reducible rfl)
  simp only [Act.put, List.setIfInBounds_toArray, List.set_cons_zero, List.set_cons_succ]
  refine readyB_in (i := 21) (by kernel_rfl) rfl (fun K hK => ?_)
  go_simp
  have o10 : Only [] w9 (w9.alloc (.cells #[.int .i64 (T1 : Int)] 3)) := (Only.refl [] w9).alloc _
  have I10 := Lib.hid (ints_one w9 (T1 : Int) wf1)
  have X10 := Lib.hid (X9.out.quiet o10)
  have O10 := Lib.hid (O9.out.trans o10 (by simp))
  have c4 : (w9.alloc (.cells #[.int .i64 (T1 : Int)] 3)).cell? ⟨m, 4, none⟩ = some (.slice (some ⟨tb, toff, none⟩) L1 tc) := cell_kept o10 c4 (by simp)
  have x0 : (w9.alloc (.cells #[.int .i64 (T1 : Int)] 3)).cell? ⟨tb, toff + L, none⟩ = some (.int .i64 T0) := cell_kept o10 x0 (by simp)
  refine hK.out _ _ ⟨c4, x0⟩ (fun hH => ?_)
  clear hK K o10 X9 O9 c4 x0
  refine readyB_in (i := 22) (by kernel_rfl) rfl (fun K hK => ?_)
  refine step_append_ints_old (by rfl) (.tmp 47) (.tmp 64) (by rfl) _ (msts M.recs) (by rfl) X10.out.starts w9.heap.size 1 (T1 : Int) (by rfl) I10.out (L1 + 1) HLE.out (msts (M.recs ++ [r])) HSN.out.symm hlb (fun a11 k11 w11 h11 x11 i11 => ?_)
  have hm11 : m ∉ (Value.slice (some ⟨tb, toff, none⟩) L1 tc).ownBlock.toList := fun hk => absurd (owns_ty X10.out.starts.1 (by simpa using hk) X10.out.blk) (by decide)
  have b11 := x11.only.heap X10.out.blk hm11
  have c4 : w11.cell? ⟨m, 4, none⟩ = some (.slice (some ⟨tb, toff, none⟩) L1 tc) := cell_at 4 b11
  obtain ⟨_, b3, off3, cap3, e11, x0⟩ := i11.at_ HGET.out
  injection e11 with e12 e13 e14
  cases e12
  clear e13 e14
  have f4 := free_at 4 b11
  have X11 := Lib.hid x11
  have H11 := Lib.hid h11
  refine hK.out _ _ ⟨c4, x0⟩ (fun hH => ?_)
  clear hK K x11 h11 i11 b11 hm11 I10
  refine takeB_list (i := 23) (v := ?_) rfl (by kernel_rfl) (by kernel_rfl) (by kernel_rfl) (by kernel_rfl) (fun _ _ _ h => h) (Or.inl ⟨by rfl, ?_⟩) hH ?_
  rotate_left
  · ((intro w hSw; (try dsimp only at hSw); go_simp); try with_reducible rfl)
  simp only [Act.put, List.setIfInBounds_toArray, List.set_cons_zero, List.set_cons_succ]
  refine takeB_list (i := 24) (v := ?_) rfl (by kernel_rfl) (by kernel_rfl) (by kernel_rfl) (by kernel_rfl) (fun _ _ _ h => h) (Or.inl ⟨by rfl, ?_⟩) hH ?_
  rotate_left
  · ((intro w hSw; (try dsimp only at hSw); go_simp); try with_reducible rfl)
  simp only [Act.put, List.setIfInBounds_toArray, List.set_cons_zero, List.set_cons_succ]
  refine readyB_out (i := 25) (by kernel_rfl) (by kernel_rfl) rfl (fun K hK => ?_)
  go_simp
  refine hK.out _ _ ?_
  clear hK K f4 c4 x0 hH
  obtain ⟨x12, o12⟩ := X10.out.start X11.out H11.out
  have S12 := Lib.hid (fun k hk => (X11.out.src k hk).imp id (fun e => Nat.le_trans O10.out.size e))
  have X12 := Lib.hid x12
  have O12 := Lib.hid (((O10.out.mono (T := m :: (Value.slice qa gs.length qc).ownBlock.toList ++ (Value.slice (some ⟨tb, toff, none⟩) L1 tc).ownBlock.toList) (fun k hk => List.mem_append_left _ hk)).trans o12 (fun k hk => .inl (by
    rcases List.mem_cons.1 hk with rfl | hk
    · simp
    · exact List.mem_append_right _ hk))))
  clear x12 o12 X10 X11 H11 O10
  generalize w11.setCell ⟨m, 4, none⟩ (.slice a11 (L1 + 1) k11) = w12 at X12 O12 ⊢
  refine wpAnyB_done (by kernel_rfl) ?_ _
  have c3 : w12.cell? ⟨m, 3, none⟩ = some (.slice a7 (gs.length + 1) k7) := cell_at 3 X12.out.blk
  have hgl : gs.length ≤ 1048575 := hcap
  go_wp2_with fail
  go_ret2
  have Z3 := O3.out.size
  refine ⟨_, _, _, ?_, X12.out.mm, (O3.out.mono (by simp)).trans O12.out (fun k hk => .inl hk), fun k hk => (S8.out k hk).imp id (fun e => Nat.le_trans Z3 e), fun k hk => (S12.out k hk).imp id (fun e => Nat.le_trans Z3 e), fun k hk => Nat.le_trans Z3 (S5.out k hk)⟩
  rw [← H.out.hlen]
  rfl
end Go.Proofs.YtfnedeaemjchgaaGreat
/- What a model makes of a Trim's answer: where it was refused. -/
namespace Go.Proofs.YtfnedeaemjchgaaGreat
open Go.RowKit Go.Maps
set_option linter.unusedSimpArgs false
set_option linter.unusedVariables false

section
variable {w : World} {m p : Nat} {a : DA} {vr vt vm nv : Value} {gs : List Value} {M : ML} {note : Sec}
set_option maxRecDepth 100000 in
/-- The journal was dead before. -/
theorem mtrim_dead (h : MM w m a p vr vt vm gs M) (hd : M.dead = true) (lsn : Int) (hn : Bytes w nv note) :
    Calls Tryz.prog 29 #[.pointer (some ⟨m, 0, none⟩), .int .i64 lsn, nv, err 3] w fun e w' => e = .returned (.bool true) ∧ Only [] w w' := by
  obtain ⟨na, nc, rfl, -⟩ := id hn
  obtain ⟨S, hS⟩ : ∃ S, S = strOf note := ⟨_, rfl⟩
  have s1 := str_bytes hn hS
  have c9 : w.cell? ⟨m, 9, none⟩ = some (.bool M.dead) := cell_at 9 h.blk
  have c5 : w.cell? ⟨m, 5, none⟩ = some (.int .i64 M.first) := cell_at 5 h.blk
  have hm : m < w.heap.size := lt_of_heap h.blk
  have hne : m ≠ w.heap.size := by omega
  have o1 : Only [] w (w.alloc (.cells #[.int .i64 lsn, .string S] 41)) := (Only.refl [] w).alloc _
  have d9 : (w.alloc (.cells #[.int .i64 lsn, .string S] 41)).cell? ⟨m, 9, none⟩ = some (.bool M.dead) := cell_at 9 (o1.heap h.blk (by simp))
  have d5 : (w.alloc (.cells #[.int .i64 lsn, .string S] 41)).cell? ⟨m, 5, none⟩ = some (.int .i64 M.first) := cell_at 5 (o1.heap h.blk (by simp))
  rw [hd] at c9 d9
  have q3 := err_33
  have HO := Lib.hid o1
  clear h hd hn hS o1 hm c9 c5
  go_enter Tryz.func29, Tryz.ntmps29
  go_wp2_with fail
  go_ret
  exact ⟨rfl, HO.out⟩
set_option maxRecDepth 100000 in
/-- A number that is none of the journal's. -/
theorem mtrim_range (h : MM w m a p vr vt vm gs M) (hd : M.dead = false) (lsn : Int) (hn : Bytes w nv note) (hb : M.recs.length ≤ 1099511627776) (hr : lsn < M.first ∨ (M.next : Int) < lsn) :
    Calls Tryz.prog 29 #[.pointer (some ⟨m, 0, none⟩), .int .i64 lsn, nv, err 1] w fun e w' => e = .returned (.bool true) ∧ Only [] w w' := by
  obtain ⟨na, nc, rfl, -⟩ := id hn
  obtain ⟨S, hS⟩ : ∃ S, S = strOf note := ⟨_, rfl⟩
  have s1 := str_bytes hn hS
  have c9 : w.cell? ⟨m, 9, none⟩ = some (.bool M.dead) := cell_at 9 h.blk
  have c5 : w.cell? ⟨m, 5, none⟩ = some (.int .i64 M.first) := cell_at 5 h.blk
  have hm : m < w.heap.size := lt_of_heap h.blk
  have hne : m ≠ w.heap.size := by omega
  have o1 : Only [] w (w.alloc (.cells #[.int .i64 lsn, .string S] 41)) := (Only.refl [] w).alloc _
  have d9 : (w.alloc (.cells #[.int .i64 lsn, .string S] 41)).cell? ⟨m, 9, none⟩ = some (.bool M.dead) := cell_at 9 (o1.heap h.blk (by simp))
  have d5 : (w.alloc (.cells #[.int .i64 lsn, .string S] 41)).cell? ⟨m, 5, none⟩ = some (.int .i64 M.first) := cell_at 5 (o1.heap h.blk (by simp))
  rw [hd] at c9 d9
  have q3 := err_11
  have hnx := mnext_any (h.quiet o1) hb
  have HO := Lib.hid o1
  by_cases hlo : lsn < M.first
  · clear h hd hn hS o1 hm c9 c5 hnx hr
    go_enter Tryz.func29, Tryz.ntmps29
    go_wp2_with fail
    go_ret
    exact ⟨rfl, HO.out⟩
  · have hhi : (M.next : Int) < lsn := by omega
    have hlo' : decide (lsn < (M.first : Int)) = false := by rw [decide_eq_false_iff_not]; exact hlo
    clear h hd hn hS o1 hm c9 c5 hr
    go_enter Tryz.func29, Tryz.ntmps29
    go_wp2_with fail
    refine hnx.mono ?_
    rintro e w2 ⟨rfl, rfl⟩
    go_wp2_with fail
    go_ret
    exact ⟨rfl, HO.out⟩
set_option maxRecDepth 100000 in
/-- A note that is too long. -/
theorem mtrim_form (h : MM w m a p vr vt vm gs M) (hd : M.dead = false) (lsn : Int) (hn : Bytes w nv note) (hb : M.recs.length ≤ 1099511627776) (hr : ¬ (lsn < M.first ∨ (M.next : Int) < lsn)) (hl : 400 < note.length) :
    Calls Tryz.prog 29 #[.pointer (some ⟨m, 0, none⟩), .int .i64 lsn, nv, err 2] w fun e w' => e = .returned (.bool true) ∧ Only [] w w' := by
  obtain ⟨na, nc, rfl, -⟩ := id hn
  obtain ⟨S, hS⟩ : ∃ S, S = strOf note := ⟨_, rfl⟩
  have s1 := str_bytes hn hS
  have c9 : w.cell? ⟨m, 9, none⟩ = some (.bool M.dead) := cell_at 9 h.blk
  have c5 : w.cell? ⟨m, 5, none⟩ = some (.int .i64 M.first) := cell_at 5 h.blk
  have hm : m < w.heap.size := lt_of_heap h.blk
  have hne : m ≠ w.heap.size := by omega
  have o1 : Only [] w (w.alloc (.cells #[.int .i64 lsn, .string S] 41)) := (Only.refl [] w).alloc _
  have d9 : (w.alloc (.cells #[.int .i64 lsn, .string S] 41)).cell? ⟨m, 9, none⟩ = some (.bool M.dead) := cell_at 9 (o1.heap h.blk (by simp))
  have d5 : (w.alloc (.cells #[.int .i64 lsn, .string S] 41)).cell? ⟨m, 5, none⟩ = some (.int .i64 M.first) := cell_at 5 (o1.heap h.blk (by simp))
  rw [hd] at c9 d9
  have q3 := err_22
  have hnx := mnext_any (h.quiet o1) hb
  have HO := Lib.hid o1
  have hlo : ¬ lsn < M.first := fun e => hr (.inl e)
  have hhi : ¬ (M.next : Int) < lsn := fun e => hr (.inr e)
  have hl' : (400 : Int) < (note.length : Int) := by omega
  clear h hd hn hS o1 hm c9 c5 hr
  go_enter Tryz.func29, Tryz.ntmps29
  go_wp2_with fail
  refine hnx.mono ?_
  rintro e w2 ⟨rfl, rfl⟩
  go_wp2_with fail
  go_ret
  exact ⟨rfl, HO.out⟩
end
end Go.Proofs.YtfnedeaemjchgaaGreat
/- What a model makes of a Trim's answer: it is done. -/
namespace Go.Proofs.YtfnedeaemjchgaaGreat
open Go.RowKit Go.Maps
set_option linter.unusedSimpArgs false
set_option linter.unusedVariables false

section
variable {w : World} {m p : Nat} {a : DA} {vr vt vm nv : Value} {gs : List Value} {M : ML} {note : Sec} {d : Disk}
set_option maxRecDepth 100000 in
set_option maxHeartbeats 1000000 in
/-- It is done. -/
theorem mtrim_yes (h : MM w m a p vr vt vm gs M) (hd : M.dead = false) (L : Nat) (hn : Bytes w nv note) (hb : M.recs.length ≤ 1099511627776) (hr : M.first ≤ L ∧ L ≤ M.next) (hl : note.length ≤ 400) (hv : Dev w a d) (hdn : d.met.down = false) :
    Calls Tryz.prog 29 #[.pointer (some ⟨m, 0, none⟩), .int .i64 (L : Int), nv, .nilIface] w fun e w' => e = .returned (.bool true) ∧ MM w' m a p vr vt vm gs { M with sure := M.next, first := L, note := note } ∧ Only [m] w w' := by
  obtain ⟨na, nc, rfl, -⟩ := id hn
  obtain ⟨S, hS⟩ : ∃ S, S = strOf note := ⟨_, rfl⟩
  have s1 := str_bytes hn hS
  have hm : m < w.heap.size := lt_of_heap h.blk
  have o1 : Only [] w (w.alloc (.cells #[.int .i64 (L : Int), .string S] 41)) := (Only.refl [] w).alloc _
  have h1 := h.quiet o1
  have k0 := cell_at 0 (heap_new w (.cells #[.int .i64 (L : Int), .string S] 41))
  have k1 := cell_at 1 (heap_new w (.cells #[.int .i64 (L : Int), .string S] 41))
  have d9 : (w.alloc (.cells #[.int .i64 (L : Int), .string S] 41)).cell? ⟨m, 9, none⟩ = some (.bool M.dead) := cell_at 9 h1.blk
  have d5 : (w.alloc (.cells #[.int .i64 (L : Int), .string S] 41)).cell? ⟨m, 5, none⟩ = some (.int .i64 M.first) := cell_at 5 h1.blk
  rw [hd] at d9
  have q3 := iface_nil
  have hnx := mnext_any h1 hb
  have hlo : ¬ (L : Int) < M.first := by omega
  have hhi : ¬ (M.next : Int) < L := by omega
  have hl' : ¬ (400 : Int) < (note.length : Int) := by omega
  have HV := Lib.hid (hv.kept o1 (by simp))
  have HDN := Lib.hid hdn
  have HS := Lib.hid hS
  have HB := Lib.hid hb
  clear h hd hn hS hr hl hv hdn hb
  go_enter Tryz.func29, Tryz.ntmps29
  go_wp2_with fail
  refine hnx.mono ?_
  rintro e w2 ⟨rfl, rfl⟩
  obtain ⟨G, hG⟩ : ∃ G, G = w.heap.size := ⟨_, rfl⟩
  rw [← hG] at k0 k1 hm ⊢
  have k0' : (w.alloc (.cells #[.int .i64 (L : Int), .string S] 41)).cell? ⟨G, 0, none⟩ = some (.int .i64 (L : Int)) := k0
  have k1' : (w.alloc (.cells #[.int .i64 (L : Int), .string S] 41)).cell? ⟨G, 1, none⟩ = some (.string S) := k1
  obtain ⟨w3, hw3⟩ : ∃ w3, w3 = w.alloc (.cells #[.int .i64 (L : Int), .string S] 41) := ⟨_, rfl⟩
  rw [← hw3] at o1 h1 k0' k1' d9 d5 HV ⊢
  clear k0 k1 hw3 hnx hG
  go_wp2_with fail
  have o3 : Only [] w3 w3.drew := (Only.refl [] w3).drew
  have H3 := Lib.hid (h1.quiet o3)
  have HV3 := Lib.hid (HV.out.kept o3 (by simp))
  have HO3 := Lib.hid (o1.trans o3 (by simp))
  refine wp_region_held_drew (S := fun w' => w'.cell? ⟨G, 0, none⟩ = some (.int .i64 (L : Int)) ∧ w'.cell? ⟨G, 1, none⟩ = some (.string S)) (by kernel_rfl) ⟨k0', k1'⟩ (fun hH => ?_)
  clear o1 o3 h1 k0' k1' d9 d5 HV hlo hhi hl'
  generalize w3.drew = w4 at H3 HV3 HO3 hH ⊢
  refine take_list (i := 0) (v := ?_) rfl (by kernel_rfl) (by kernel_rfl) (by kernel_rfl) (fun _ _ _ h => h) (Or.inl ⟨by rfl, ?_⟩) hH ?_
  rotate_left
  · ((intro w hSw; (try dsimp only at hSw); go_simp); try with_reducible rfl)
  simp only [Act.put, List.setIfInBounds_toArray, List.set_cons_zero, List.set_cons_succ]
  refine take_list (i := 1) (v := ?_) rfl (by kernel_rfl) (by kernel_rfl) (by kernel_rfl) (fun _ _ _ h => h) (Or.inl ⟨by rfl, ?_⟩) hH ?_
  rotate_left
  · ((intro w hSw; (try dsimp only at hSw); go_simp); try with_reducible rfl)
  simp only [Act.put, List.setIfInBounds_toArray, List.set_cons_zero, List.set_cons_succ]
  refine take_list (i := 2) (v := ?_) rfl (by kernel_rfl) (by kernel_rfl) (by kernel_rfl) (fun _ _ _ h => h) (Or.inl ⟨by rfl, ?_⟩) hH ?_
  rotate_left
  · ((intro w hSw; (try dsimp only at hSw); go_simp); try with_reducible rfl)
  simp only [Act.put, List.setIfInBounds_toArray, List.set_cons_zero, List.set_cons_succ]
  refine take_list (i := 4) (v := ?_) rfl (by kernel_rfl) (by kernel_rfl) (by kernel_rfl) (fun _ _ _ h => h) (Or.inl ⟨by rfl, ?_⟩) hH ?_
  rotate_left
  · ((intro w hSw; (try dsimp only at hSw); go_simp); try with_reducible rfl)
  simp only [Act.put, List.setIfInBounds_toArray, List.set_cons_zero, List.set_cons_succ]
  refine wpAnyH_ready (rs := [3]) (by kernel_rfl) (by simp) ?_
  refine ready_list rfl (fun K hK => ?_)
  go_simp
  refine (mnext_any H3.out HB.out).mono ?_
  rintro e w5 ⟨rfl, rfl⟩
  refine hK.out _ _ hH (fun hH => ?_)
  clear hK K
  refine take_list (i := 5) (v := ?_) rfl (by kernel_rfl) (by kernel_rfl) (by kernel_rfl) (fun _ _ _ h => h) (Or.inl ⟨by rfl, ?_⟩) hH ?_
  rotate_left
  · ((intro w hSw; (try dsimp only at hSw); go_simp); try with_reducible rfl)
  simp only [Act.put, List.setIfInBounds_toArray, List.set_cons_zero, List.set_cons_succ]
  refine take_list (i := 6) (v := ?_) rfl (by kernel_rfl) (by kernel_rfl) (by kernel_rfl) (fun _ _ _ h => h) (Or.inl ⟨by rfl, ?_⟩) hH ?_
  rotate_left
  · ((intro w hSw; (try dsimp only at hSw); go_simp); try with_reducible rfl)
  simp only [Act.put, List.setIfInBounds_toArray, List.set_cons_zero, List.set_cons_succ]
  have c7 : w4.cell? ⟨m, 7, none⟩ = some (.int .i64 M.sure) := cell_at 7 H3.out.blk
  have f7 := free_at 7 H3.out.blk
  refine wpAnyH_ready (rs := [7]) (by kernel_rfl) (by simp) ?_
  refine ready_list rfl (fun K hK => ?_)
  go_simp
  have hmG : m ≠ G := by omega
  have o5 : Only [m] w4 (w4.setCell ⟨m, 7, none⟩ (.int .i64 M.next)) := (Only.refl _ _).setCell (by simp) _
  have H5 := Lib.hid (H3.out.turn (M' := { M with sure := M.next }) o5 rfl (heap_cell (i := 7) (.int .i64 M.next) H3.out.blk))
  have HV5 := Lib.hid (HV3.out.kept o5 (fun k hk => by rw [List.mem_singleton.1 hk]; exact HV3.out.off_ty H3.out.blk (by decide)))
  have HO5 := Lib.hid (HO3.out.mono (T := [m]) (by simp) |>.trans o5 (fun k hk => .inl hk))
  have g0 := cell_kept o5 hH.1 (by simp; omega)
  have g1 := cell_kept o5 hH.2 (by simp; omega)
  refine hK.out _ _ ⟨g0, g1⟩ (fun hH => ?_)
  clear hK K c7 f7 o5 g0 g1 H3 HV3 HO3
  generalize w4.setCell ⟨m, 7, none⟩ (.int .i64 M.next) = w5 at H5 HV5 HO5 hH ⊢
  refine take_list (i := 8) (v := ?_) rfl (by kernel_rfl) (by kernel_rfl) (by kernel_rfl) (fun _ _ _ h => h) (Or.inl ⟨by rfl, ?_⟩) hH ?_
  rotate_left
  · ((intro w hSw; (try dsimp only at hSw); go_simp); try with_reducible rfl)
  simp only [Act.put, List.setIfInBounds_toArray, List.set_cons_zero, List.set_cons_succ]
  refine take_list (i := 9) (v := ?_) rfl (by kernel_rfl) (by kernel_rfl) (by kernel_rfl) (fun _ _ _ h => h) (Or.inl ⟨by rfl, ?_⟩) hH ?_
  rotate_left
  · ((intro w hSw; (try dsimp only at hSw); go_simp); try with_reducible rfl)
  simp only [Act.put, List.setIfInBounds_toArray, List.set_cons_zero, List.set_cons_succ]
  have c5 : w5.cell? ⟨m, 5, none⟩ = some (.int .i64 M.first) := cell_at 5 H5.out.blk
  have c6 : w5.cell? ⟨m, 6, none⟩ = some (.string (strOf M.note)) := cell_at 6 H5.out.blk
  have f5 := free_at 5 H5.out.blk
  have f6 := free_at 6 H5.out.blk
  refine wpAnyH_ready (rs := [10]) (by kernel_rfl) (by simp) ?_
  refine ready_list rfl (fun K hK => ?_)
  go_simp
  have o6 : Only [m] w5 ((w5.setCell ⟨m, 5, none⟩ (.int .i64 (L : Int))).setCell ⟨m, 6, none⟩ (.string S)) := ((Only.refl _ _).setCell (by simp) _).setCell (by simp) _
  have hh : ((w5.setCell ⟨m, 5, none⟩ (.int .i64 (L : Int))).setCell ⟨m, 6, none⟩ (.string S)).heap[m]? = some (.cells #[.pointer (some ⟨a.p, 0, none⟩), .int .i64 M.n, .pointer (some ⟨p, 0, none⟩), vr, vt, .int .i64 (L : Int), .string (strOf note), .int .i64 M.next, .int .i64 M.booked, .bool M.dead, vm] 44 (0, 0)) := by
    rw [← HS.out]
    exact heap_cell (i := 6) (.string S) (heap_cell (i := 5) (.int .i64 (L : Int)) H5.out.blk)
  have H6 := Lib.hid (H5.out.turn (M' := { M with sure := M.next, first := L, note := note }) o6 rfl hh)
  have HV6 := Lib.hid (HV5.out.kept o6 (fun k hk => by rw [List.mem_singleton.1 hk]; exact HV5.out.off_ty H5.out.blk (by decide)))
  have HO6 := Lib.hid (HO5.out.trans o6 (fun k hk => .inl hk))
  have g0 := cell_kept o6 hH.1 (by simp; omega)
  have g1 := cell_kept o6 hH.2 (by simp; omega)
  refine hK.out _ _ ⟨g0, g1⟩ (fun hH => ?_)
  clear hK K c5 c6 f5 f6 o6 hh g0 g1 H5 HV5 HO5
  generalize (w5.setCell ⟨m, 5, none⟩ (.int .i64 (L : Int))).setCell ⟨m, 6, none⟩ (.string S) = w6 at H6 HV6 HO6 hH ⊢
  refine wpAnyH_done (by kernel_rfl) ?_ _
  clear hH
  have c0 : w6.cell? ⟨m, 0, none⟩ = some (.pointer (some ⟨a.p, 0, none⟩)) := cell_at 0 H6.out.blk
  have hdn := down_any _ _ _ _ _ _ HV6.out.blk
  rw [HDN.out] at hdn
  go_wp2_with fail
  refine hdn.mono ?_
  rintro e w7 ⟨rfl, rfl⟩
  go_wp2_with fail
  go_ret
  exact ⟨rfl, H6.out, HO6.out⟩
end
end Go.Proofs.YtfnedeaemjchgaaGreat
/- A model's marks: what a Trim that was cut may have left. -/
namespace Go.Proofs.YtfnedeaemjchgaaGreat
open Go.RowKit Go.Maps
set_option linter.unusedSimpArgs false
set_option linter.unusedVariables false

def mkv (l : List (Nat × Sec)) : List Value := (l.map fun x => [Value.int .i64 (x.1 : Int), Value.string (strOf x.2)]).flatten
theorem mkv_length : ∀ l : List (Nat × Sec), (mkv l).length = 2 * l.length
  | [] => rfl
  | p :: l => by
    have := mkv_length l
    simp only [mkv, List.map_cons, List.flatten_cons, List.length_append, List.length_cons, List.length_nil] at this ⊢
    omega
theorem mkv_snoc (l : List (Nat × Sec)) (x : Nat × Sec) : mkv (l ++ [x]) = mkv l ++ [.int .i64 (x.1 : Int), .string (strOf x.2)] := by simp [mkv]
theorem mkv_get0 : ∀ (l : List (Nat × Sec)) (i : Nat) (x : Nat × Sec), l[i]? = some x → (mkv l)[i * 2]? = some (.int .i64 (x.1 : Int))
  | [], i, p, h => by simp at h
  | q :: l, 0, p, h => by
    simp at h
    subst h
    rfl
  | q :: l, i + 1, p, h => by
    have := mkv_get0 l i p (by simpa using h)
    have e : (i + 1) * 2 = i * 2 + 1 + 1 := by omega
    rw [e]
    exact this
theorem mkv_get1 : ∀ (l : List (Nat × Sec)) (i : Nat) (x : Nat × Sec), l[i]? = some x → (mkv l)[i * 2 + 1]? = some (.string (strOf x.2))
  | [], i, p, h => by simp at h
  | q :: l, 0, p, h => by
    simp at h
    subst h
    rfl
  | q :: l, i + 1, p, h => by
    have := mkv_get1 l i p (by simpa using h)
    have e : (i + 1) * 2 + 1 = (i * 2 + 1) + 1 + 1 := by omega
    rw [e]
    exact this
/-- Marks of one's own. -/
def OMk (w : World) (v : Value) (l : List (Nat × Sec)) : Prop := w.ownsRow 0 41 2 v l.length (mkv l)
section
variable {w w' : World} {v : Value} {l : List (Nat × Sec)}
theorem OMk.nil (w : World) : OMk w (.slice none 0 0) [] := World.ownsRow_nil w 0 _ 2
theorem OMk.kept {S : List Nat} (h : OMk w v l) (ho : Only S w w') (hs : ∀ k ∈ S, v.ownBlock ≠ some k) : OMk w' v l := by
  refine ⟨h.1, ?_⟩
  rcases h.2 with hn | ⟨g, cap, cur, rfl, hb, hg, r⟩
  · exact .inl hn
  · exact .inr ⟨g, cap, cur, rfl, hb, ho.heap hg (fun e => hs g e rfl), r⟩
theorem OMk.shape (h : OMk w v l) : ∃ a cap, v = .slice a l.length cap := by
  rcases h.2 with ⟨rfl, hn⟩ | ⟨g, cap, cur, rfl, hb, hg, r⟩
  · exact ⟨none, 0, by rw [hn]⟩
  · exact ⟨_, _, rfl⟩
theorem OMk.ty {k : Nat} {t : TypeId} {c : Array Value} {fr : Nat × Nat} (h : OMk w v l) (hk : v.ownBlock = some k) (hg : w.heap[k]? = some (.cells c t fr)) : t = 41 := by
  rcases h.2 with ⟨rfl, _⟩ | ⟨g, cap, cur, rfl, hb, hg', r⟩
  · cases hk
  · obtain rfl : g = k := by simpa [Value.ownBlock] using hk
    rw [hg'] at hg
    simp only [Option.some.injEq, Obj.cells.injEq] at hg
    exact hg.2.1.symm
theorem OMk.at_ (h : OMk w v l) {i : Nat} {x : Nat × Sec} (hi : l[i]? = some x) : ∃ g cap, v = .slice (some ⟨g, 0, none⟩) l.length cap ∧ w.cell? ⟨g, i * 2, none⟩ = some (.int .i64 (x.1 : Int)) ∧ w.cell? ⟨g, i * 2 + 1, none⟩ = some (.string (strOf x.2)) := by
  have hlt : i < l.length := (List.getElem?_eq_some_iff.1 hi).1
  rcases h.2 with ⟨rfl, hn⟩ | ⟨g, cap, cur, rfl, hb, hg, hc, _, hz, ht⟩
  · omega
  · refine ⟨g, cap, rfl, ?_, ?_⟩
    · rw [cell_at _ hg]
      have h1 := mkv_get0 l i x hi
      rw [← ht, List.getElem?_take_of_lt (by omega)] at h1
      simpa using h1
    · rw [cell_at _ hg]
      have h1 := mkv_get1 l i x hi
      rw [← ht, List.getElem?_take_of_lt (by omega)] at h1
      simpa using h1
end
theorem info_mark : (Tryz.prog.info? 41).map (fun i => (i.zero, i.size, i.bytes)) = some (some (.agg #[.int .i64 0, .string ⟨#[]⟩]), 2, 24) := by kernel_rfl
theorem run_append_mark {w : World} (ty : TypeId) (v : Value) (l : List (Nat × Sec)) (hown : OMk w v l) (bx capx : Nat) (x : Nat × Sec) (h0 : w.cell? ⟨bx, 0, none⟩ = some (.int .i64 (x.1 : Int))) (h1 : w.cell? ⟨bx, 1, none⟩ = some (.string (strOf x.2))) (hn : l.length ≤ 1048576) :
    ∃ a cap w', (Builtin.append_ #[42, 42] ty #[v, .slice (some ⟨bx, 0, none⟩) 1 capx]).run Tryz.prog w = .ok (.slice a (l.length + 1) cap) w' ∧ OMk w' (.slice a (l.length + 1) cap) (l ++ [x]) ∧ Ext w v w' (.slice a (l.length + 1) cap) := by
  obtain ⟨i, hi, hz⟩ := Option.map_eq_some_iff.1 info_mark
  simp only [Prod.mk.injEq] at hz
  obtain ⟨z1, z2, z3⟩ := hz
  have hcell : ∀ (j : Nat) (u : Value), ([.int .i64 (x.1 : Int), .string (strOf x.2)] : List Value)[j]? = some u → w.cell? ((⟨bx, 0, none⟩ : Addr).add j) = some u := fun j u hj => by
    match j with
    | 0 =>
      simp at hj
      subst hj
      have : (⟨bx, 0, none⟩ : Addr).add 0 = ⟨bx, 0, none⟩ := by simp [Addr.add]
      rw [this]
      exact h0
    | 1 =>
      simp at hj
      subst hj
      have : (⟨bx, 0, none⟩ : Addr).add 1 = ⟨bx, 1, none⟩ := by simp [Addr.add]
      rw [this]
      exact h1
    | j + 2 => simp at hj
  obtain ⟨v', w', hr, k1, k2, _, k5⟩ := run_append_own_at (P := Tryz.prog) w 0 42 ty 41 i (.agg #[.int .i64 0, .string ⟨#[]⟩]) 2 24 Tryz.underlying42 hi z1 z2 z3 rfl (by omega) v l.length (mkv l) hown ⟨bx, 0, none⟩ 1 capx [.int .i64 (x.1 : Int), .string (strOf x.2)] rfl hcell (by simp [Value.oneCell']) (by unfold maxLen; omega) (by omega) (Nat.zero_le _)
  have hsh : ∃ a cap, v' = .slice a (l.length + 1) cap := by
    rcases k1.2 with ⟨_, hn⟩ | ⟨g, cap, cur, rfl, _⟩
    · omega
    · exact ⟨_, _, rfl⟩
  obtain ⟨a, cap, rfl⟩ := hsh
  refine ⟨a, cap, w', hr, ?_, Only.of_grown k2, fun g hg => ?_⟩
  · unfold OMk
    rw [mkv_snoc, List.length_append]
    exact k1
  · rcases k5 with k5 | k5
    · exact .inl (by rw [← k5]; exact hg)
    · rw [k5] at hg
      exact .inr (Nat.le_of_eq (Option.some.inj hg))
section
variable {w : World} {ops : Array Oper} {rest : List Oper} {o : Oper} {a : Act} {Q : Exit → Act → World → Prop}
theorem step_append_mark {K : Act → World → Prop} {E : Prop} (hg : o.guard = none) (s x : Operand) (hop : o.op = Op.call { callee := Callee.builtin Builtin.append, args := #[s, x], argTypes := #[42, 42] })
    (v : Value) (l : List (Nat × Sec)) (hs : a.eval s = v) (hown : OMk w v l) (bx capx : Nat) (hx : a.eval x = .slice (some ⟨bx, 0, none⟩) 1 capx) (y : Nat × Sec) (h0 : w.cell? ⟨bx, 0, none⟩ = some (.int .i64 (y.1 : Int))) (h1 : w.cell? ⟨bx, 1, none⟩ = some (.string (strOf y.2))) (hn : l.length ≤ 1048576)
    (hK : ∀ a' cap w', OMk w' (.slice a' (l.length + 1) cap) (l ++ [y]) → Ext w v w' (.slice a' (l.length + 1) cap) → K (a.put o.dst (.slice a' (l.length + 1) cap)) w') :
    if Region.wanted o (yielded ops a.tmps) = true then Oper.wp Tryz.prog o a w K Q else E := by
  have hw : Region.wanted o (yielded ops a.tmps) = true := by simp [Region.wanted, hg]
  rw [if_pos hw]
  obtain ⟨a', cap, w', hrun, k1, k2⟩ := run_append_mark o.type v l hown bx capx y h0 h1 hn
  unfold Oper.wp
  simp [execOp, hop, resolve, invoke, builtin, hs, hx, hrun, Result.andThen]
  exact hK a' cap w' k1 k2
end
end Go.Proofs.YtfnedeaemjchgaaGreat
/- What a model makes of a Trim's answer: power went. -/
namespace Go.Proofs.YtfnedeaemjchgaaGreat
open Go.RowKit Go.Maps
set_option linter.unusedSimpArgs false
set_option linter.unusedVariables false

section
variable {w w1 : World} {m p : Nat} {a : DA} {vr vt vm vm' nv : Value} {gs : List Value} {M M' : ML} {note : Sec} {d : Disk}
theorem OMk.blk {l : List (Nat × Sec)} {v : Value} {k : Nat} (h : OMk w v l) (hk : v.ownBlock = some k) : ∃ c, w.heap[k]? = some (.cells c 41 (0, 0)) := by
  rcases h.2 with ⟨rfl, _⟩ | ⟨g, cap, cur, rfl, hb, hg', r⟩
  · cases hk
  · obtain rfl : g = k := by simpa [Value.ownBlock] using hk
    exact ⟨cur, hg'⟩
/-- The model's own cells have turned, and its marks. -/
theorem MM.turnM (h : MM w m a p vr vt vm gs M) (hy : OMk w vm M.may) (ho : Only (m :: vm.ownBlock.toList) w w1) (hr : M'.recs = M.recs)
    (hb : w1.heap[m]? = some (.cells #[.pointer (some ⟨a.p, 0, none⟩), .int .i64 M'.n, .pointer (some ⟨p, 0, none⟩), vr, vt, .int .i64 M'.first, .string (strOf M'.note), .int .i64 M'.sure, .int .i64 M'.booked, .bool M'.dead, vm'] 44 (0, 0))) : MM w1 m a p vr vt vm' gs M' := by
  have key : ∀ k ∈ m :: vm.ownBlock.toList, ∃ c t, w.heap[k]? = some (.cells c t (0, 0)) ∧ (t = 44 ∨ t = 41) := by
    intro k hk
    rcases List.mem_cons.1 hk with rfl | hk
    · exact ⟨_, _, h.blk, .inl rfl⟩
    · obtain ⟨c, hc⟩ := hy.blk (by simpa using hk)
      exact ⟨c, _, hc, .inr rfl⟩
  refine ⟨hb, own_kept h.recs ho (fun k hk e => ?_), by rw [hr]; exact h.hlen, fun i g r hg hr' => (h.rows i g r hg (by rw [← hr]; exact hr')).kept ho (fun k hk e => ?_), ?_⟩
  · obtain ⟨c, t, hc, ht⟩ := key k hk
    have := owns_ty h.recs e hc
    rcases ht with rfl | rfl <;> exact absurd this (by decide)
  · obtain ⟨c, t, hc, ht⟩ := key k hk
    have := owns_ty (h.rows i g r hg (by rw [← hr]; exact hr')) e hc
    rcases ht with rfl | rfl <;> exact absurd this (by decide)
  · rw [hr]
    refine ⟨owns_kept h.starts.1 ho (fun k hk e => ?_), h.starts.2⟩
    obtain ⟨c, t, hc, ht⟩ := key k hk
    have := owns_ty h.starts.1 e hc
    rcases ht with rfl | rfl <;> exact absurd this (by decide)
set_option maxRecDepth 100000 in
set_option maxHeartbeats 1000000 in
/-- Power went. -/
theorem mtrim_no (h : MM w m a p vr vt vm gs M) (hy : OMk w vm M.may) (hmay : M.may.length ≤ 1048576) (hd : M.dead = false) (L : Nat) (hn : Bytes w nv note) (hb : M.recs.length ≤ 1099511627776) (hr : M.first ≤ L ∧ L ≤ M.next) (hl : note.length ≤ 400) (hv : Dev w a d) (hdn : d.met.down = true) :
    Calls Tryz.prog 29 #[.pointer (some ⟨m, 0, none⟩), .int .i64 (L : Int), nv, err 3] w fun e w' => e = .returned (.bool true) ∧ ∃ vm', MM w' m a p vr vt vm' gs { M with dead := true, may := M.may ++ [(L, note)] } ∧ OMk w' vm' (M.may ++ [(L, note)]) ∧ Only (m :: vm.ownBlock.toList) w w' ∧ (∀ k, vm'.ownBlock = some k → vm.ownBlock = some k ∨ w.heap.size ≤ k) := by
  obtain ⟨na, nc, rfl, -⟩ := id hn
  obtain ⟨va, vc, rfl⟩ := hy.shape
  obtain ⟨S, hS⟩ : ∃ S, S = strOf note := ⟨_, rfl⟩
  have s1 := str_bytes hn hS
  have hm : m < w.heap.size := lt_of_heap h.blk
  have hvl : ∀ k, (Value.slice va M.may.length vc).ownBlock = some k → k < w.heap.size := fun k hk => by
    obtain ⟨c, hc⟩ := hy.blk hk
    exact lt_of_heap hc
  have o1 : Only [] w (w.alloc (.cells #[.int .i64 (L : Int), .string S] 41)) := (Only.refl [] w).alloc _
  have h1 := h.quiet o1
  have y1 := hy.kept o1 (by simp)
  have k0 := cell_at 0 (heap_new w (.cells #[.int .i64 (L : Int), .string S] 41))
  have k1 := cell_at 1 (heap_new w (.cells #[.int .i64 (L : Int), .string S] 41))
  have d9 : (w.alloc (.cells #[.int .i64 (L : Int), .string S] 41)).cell? ⟨m, 9, none⟩ = some (.bool M.dead) := cell_at 9 h1.blk
  have d5 : (w.alloc (.cells #[.int .i64 (L : Int), .string S] 41)).cell? ⟨m, 5, none⟩ = some (.int .i64 M.first) := cell_at 5 h1.blk
  have f9 := free_at 9 h1.blk
  rw [hd] at d9
  have q0 : ∀ w, (binOp .eql 36 (err 3) .nilIface).run Tryz.prog w = .ok (.bool false) w := fun w => by kernel_rfl
  have q3 := err_33
  have hnx := mnext_any h1 hb
  have hlo : ¬ (L : Int) < M.first := by omega
  have hhi : ¬ (M.next : Int) < L := by omega
  have hl' : ¬ (400 : Int) < (note.length : Int) := by omega
  have HV := Lib.hid (hv.kept o1 (by simp))
  have HDN := Lib.hid hdn
  have HS := Lib.hid hS
  have HY := Lib.hid y1
  clear h hd hn hS hr hl hv hdn hb hy y1
  go_enter Tryz.func29, Tryz.ntmps29
  go_wp2_with fail
  refine hnx.mono ?_
  rintro e w2 ⟨rfl, rfl⟩
  obtain ⟨G, hG⟩ : ∃ G, G = w.heap.size := ⟨_, rfl⟩
  rw [← hG] at k0 k1 hm hvl ⊢
  have HVL := Lib.hid hvl
  have HGW : Hid (G = w.heap.size) := Lib.hid hG
  clear hvl
  have k0' : (w.alloc (.cells #[.int .i64 (L : Int), .string S] 41)).cell? ⟨G, 0, none⟩ = some (.int .i64 (L : Int)) := k0
  have k1' : (w.alloc (.cells #[.int .i64 (L : Int), .string S] 41)).cell? ⟨G, 1, none⟩ = some (.string S) := k1
  obtain ⟨w3, hw3⟩ : ∃ w3, w3 = w.alloc (.cells #[.int .i64 (L : Int), .string S] 41) := ⟨_, rfl⟩
  rw [← hw3] at o1 h1 k0' k1' d9 d5 f9 HV HY ⊢
  have hG3 : G < w3.heap.size := by rw [hG, hw3]; exact lt_of_heap (heap_new w _)
  clear k0 k1 hw3 hnx hG
  go_wp2_with fail
  have o4 : Only [m] w3 (w3.setCell ⟨m, 9, none⟩ (.bool true)) := (Only.refl _ _).setCell (by simp) _
  have h4 := h1.turn (M' := { M with dead := true }) o4 rfl (heap_cell (i := 9) (.bool true) h1.blk)
  have hym : (Value.slice va M.may.length vc).ownBlock ≠ some m := fun e => absurd (HY.out.ty e h1.blk) (by decide)
  have y4 := HY.out.kept o4 (fun k hk => by rw [List.mem_singleton.1 hk]; exact hym)
  have hmG : m ≠ G := by omega
  have g0 := cell_kept o4 k0' (by simp; omega)
  have g1 := cell_kept o4 k1' (by simp; omega)
  have v4 := HV.out.kept o4 (fun k hk => by rw [List.mem_singleton.1 hk]; exact HV.out.off_ty h1.blk (by decide))
  obtain ⟨w4, hw4⟩ : ∃ w4, w4 = w3.setCell ⟨m, 9, none⟩ (.bool true) := ⟨_, rfl⟩
  rw [← hw4] at o4 h4 y4 g0 g1 v4 ⊢
  have o5 : Only [] w4 w4.drew := (Only.refl [] w4).drew
  have H5 := Lib.hid (h4.quiet o5)
  have Y5 := Lib.hid (y4.kept o5 (by simp))
  have HV5 := Lib.hid (v4.kept o5 (by simp))
  have O5 := Lib.hid (((o1.mono (T := [m]) (by simp)).trans o4 (fun k hk => .inl hk)).trans o5 (by simp))
  have g0 := cell_kept o5 g0 (by simp)
  have g1 := cell_kept o5 g1 (by simp)
  have c10 : w4.drew.cell? ⟨m, 10, none⟩ = some (.slice va M.may.length vc) := cell_at 10 H5.out.blk
  refine wp_region_B (S := fun w' => w'.cell? ⟨m, 10, none⟩ = some (.slice va M.may.length vc) ∧ w'.cell? ⟨G, 0, none⟩ = some (.int .i64 (L : Int)) ∧ w'.cell? ⟨G, 1, none⟩ = some (.string S)) [0, 1, 2, 3, 4, 5, 6, 7, 8, 9] (by kernel_rfl) ⟨c10, g0, g1⟩ (fun hH => ?_)
  clear o1 o4 o5 h1 h4 y4 v4 k0' k1' d9 d5 f9 HV HY hlo hhi hl' hw4 c10 g0 g1 hG3
  generalize w4.drew = w6 at H5 Y5 HV5 O5 hH ⊢
  refine takeB_list (i := 0) (v := ?_) rfl (by kernel_rfl) (by kernel_rfl) (by kernel_rfl) (by kernel_rfl) (fun _ _ _ h => h) (Or.inl ⟨by rfl, ?_⟩) hH ?_
  rotate_left
  · ((intro w hSw; (try dsimp only at hSw); go_simp); try with_reducible rfl)
  simp only [Act.put, List.setIfInBounds_toArray, List.set_cons_zero, List.set_cons_succ]
  refine takeB_list (i := 1) (v := ?_) rfl (by kernel_rfl) (by kernel_rfl) (by kernel_rfl) (by kernel_rfl) (fun _ _ _ h => h) (Or.inl ⟨by rfl, ?_⟩) hH ?_
  rotate_left
  · ((intro w hSw; (try dsimp only at hSw); go_simp); try with_reducible rfl)
  simp only [Act.put, List.setIfInBounds_toArray, List.set_cons_zero, List.set_cons_succ]
  refine takeB_list (i := 2) (v := ?_) rfl (by kernel_rfl) (by kernel_rfl) (by kernel_rfl) (by kernel_rfl) (fun _ _ _ h => h) (Or.inl ⟨by rfl, ?_⟩) hH ?_
  rotate_left
  · ((intro w hSw; (try dsimp only at hSw); go_simp); try with_reducible rfl)
  simp only [Act.put, List.setIfInBounds_toArray, List.set_cons_zero, List.set_cons_succ]
  refine takeB_list (i := 3) (v := ?_) rfl (by kernel_rfl) (by kernel_rfl) (by kernel_rfl) (by kernel_rfl) (fun _ _ _ h => h) (Or.inl ⟨by rfl, ?_⟩) hH ?_
  rotate_left
  · ((intro w hSw; (try dsimp only at hSw); go_simp); try with_reducible rfl)
  simp only [Act.put, List.setIfInBounds_toArray, List.set_cons_zero, List.set_cons_succ]
  refine takeB_list (i := 4) (v := ?_) rfl (by kernel_rfl) (by kernel_rfl) (by kernel_rfl) (by kernel_rfl) (fun _ _ _ h => h) (Or.inl ⟨by rfl, ?_⟩) hH ?_
  rotate_left
  · ((intro w hSw; (try dsimp only at hSw); go_simp); try with_reducible rfl)
  simp only [Act.put, List.setIfInBounds_toArray, List.set_cons_zero, List.set_cons_succ]
  refine takeB_list (i := 5) (v := ?_) rfl (by kernel_rfl) (by kernel_rfl) (by kernel_rfl) (by kernel_rfl) (fun _ _ _ h => h) (Or.inl ⟨by rfl, ?_⟩) hH ?_
  rotate_left
  · ((intro w hSw; (try dsimp only at hSw); go_simp); try with_reducible rfl)
  simp only [Act.put, List.setIfInBounds_toArray, List.set_cons_zero, List.set_cons_succ]
  refine readyB_in (i := 6) (by kernel_rfl) rfl (fun K hK => ?_)
  go_simp
  have o7 : Only [] w6 (w6.alloc (.cells #[.int .i64 (L : Int), .string S] 41)) := (Only.refl [] w6).alloc _
  have H7 := Lib.hid (H5.out.quiet o7)
  have Y7 := Lib.hid (Y5.out.kept o7 (by simp))
  have HV7 := Lib.hid (HV5.out.kept o7 (by simp))
  have O7 := Lib.hid (O5.out.trans o7 (by simp))
  have n0 := cell_at 0 (heap_new w6 (.cells #[.int .i64 (L : Int), .string S] 41))
  have n1 := cell_at 1 (heap_new w6 (.cells #[.int .i64 (L : Int), .string S] 41))
  have hh := And.intro (cell_kept o7 hH.1 (by simp)) (And.intro (cell_kept o7 hH.2.1 (by simp)) (cell_kept o7 hH.2.2 (by simp)))
  refine hK.out _ _ hh (fun hH => ?_)
  clear hK K o7 hh H5 Y5 HV5 O5
  have n1' : (w6.alloc (.cells #[.int .i64 (L : Int), .string S] 41)).cell? ⟨w6.heap.size, 1, none⟩ = some (.string (strOf note)) := by rw [← HS.out]; exact n1
  have N0 := Lib.hid n0
  have N1 := Lib.hid n1'
  clear n0 n1 n1'
  refine readyB_in (i := 7) (by kernel_rfl) rfl (fun K hK => ?_)
  refine step_append_mark (by rfl) (.tmp 71) (.tmp 73) (by rfl) _ M.may (by rfl) Y7.out w6.heap.size 1 (by rfl) (L, note) N0.out N1.out hmay (fun a8 k8 w8 h8 x8 => ?_)
  have hm8 : m ∉ (Value.slice va M.may.length vc).ownBlock.toList := fun hk => hym (by simpa using hk)
  have b8 := x8.only.heap H7.out.blk hm8
  have hG8 : G ∉ (Value.slice va M.may.length vc).ownBlock.toList := fun hk => by
    have := HVL.out G (by simpa using hk)
    omega
  have c10 : w8.cell? ⟨m, 10, none⟩ = some (.slice va M.may.length vc) := cell_at 10 b8
  have f10 := free_at 10 b8
  have hh := And.intro c10 (And.intro (cell_kept x8.only hH.2.1 hG8) (cell_kept x8.only hH.2.2 hG8))
  have X8 := Lib.hid x8
  have Y8 := Lib.hid h8
  refine hK.out _ _ hh (fun hH => ?_)
  clear hK K x8 h8 b8 hm8 hG8 hh
  refine takeB_list (i := 8) (v := ?_) rfl (by kernel_rfl) (by kernel_rfl) (by kernel_rfl) (by kernel_rfl) (fun _ _ _ h => h) (Or.inl ⟨by rfl, ?_⟩) hH ?_
  rotate_left
  · ((intro w hSw; (try dsimp only at hSw); go_simp); try with_reducible rfl)
  simp only [Act.put, List.setIfInBounds_toArray, List.set_cons_zero, List.set_cons_succ]
  refine takeB_list (i := 9) (v := ?_) rfl (by kernel_rfl) (by kernel_rfl) (by kernel_rfl) (by kernel_rfl) (fun _ _ _ h => h) (Or.inl ⟨by rfl, ?_⟩) hH ?_
  rotate_left
  · ((intro w hSw; (try dsimp only at hSw); go_simp); try with_reducible rfl)
  simp only [Act.put, List.setIfInBounds_toArray, List.set_cons_zero, List.set_cons_succ]
  refine readyB_out (i := 10) (by kernel_rfl) (by kernel_rfl) rfl (fun K hK => ?_)
  go_simp
  refine hK.out _ _ ?_
  clear hK K c10 f10 hH N0 N1
  have hm8 : m ∉ (Value.slice va M.may.length vc).ownBlock.toList := fun hk => hym (by simpa using hk)
  have b8 := X8.out.only.heap H7.out.blk hm8
  have hxm : (Value.slice a8 (M.may.length + 1) k8).ownBlock ≠ some m := fun e => absurd (Y8.out.ty e b8) (by decide)
  have o9 : Only [m] w8 (w8.setCell ⟨m, 10, none⟩ (.slice a8 (M.may.length + 1) k8)) := (Only.refl _ _).setCell (by simp) _
  have O9 := Lib.hid ((X8.out.only.mono (T := m :: (Value.slice va M.may.length vc).ownBlock.toList) (fun k hk => List.mem_cons_of_mem _ hk)).trans o9 (fun k hk => .inl (by rw [List.mem_singleton.1 hk]; exact List.mem_cons_self ..)))
  have H9 := Lib.hid (H7.out.turnM (M' := { M with dead := true, may := M.may ++ [(L, note)] }) Y7.out O9.out rfl (heap_cell (i := 10) (.slice a8 (M.may.length + 1) k8) b8))
  have Y9 := Lib.hid (Y8.out.kept o9 (fun k hk => by rw [List.mem_singleton.1 hk]; exact hxm))
  have HV9 := Lib.hid (HV7.out.kept O9.out (fun k hk => by
    rcases List.mem_cons.1 hk with rfl | hk
    · exact HV7.out.off_ty H7.out.blk (by decide)
    · obtain ⟨c, hc⟩ := Y7.out.blk (by simpa using hk)
      exact HV7.out.off_ty hc (by decide)))
  have OX := Lib.hid ((O7.out.mono (T := m :: (Value.slice va M.may.length vc).ownBlock.toList) (by simp)).trans O9.out (fun k hk => .inl hk))
  have SX := Lib.hid (fun k (hk : (Value.slice a8 (M.may.length + 1) k8).ownBlock = some k) => (X8.out.src k hk).imp id (fun e => Nat.le_trans O7.out.size e))
  clear hm8 b8 hxm o9 X8 Y8 H7 Y7 HV7 O7 O9
  generalize w8.setCell ⟨m, 10, none⟩ (.slice a8 (M.may.length + 1) k8) = w9 at H9 Y9 HV9 OX ⊢
  refine wpAnyB_done (by kernel_rfl) ?_ _
  have c0 : w9.cell? ⟨m, 0, none⟩ = some (.pointer (some ⟨a.p, 0, none⟩)) := cell_at 0 H9.out.blk
  have hdn := down_any _ _ _ _ _ _ HV9.out.blk
  rw [HDN.out] at hdn
  go_wp2_with fail
  refine hdn.mono ?_
  rintro e w10 ⟨rfl, rfl⟩
  go_wp2_with fail
  go_ret
  exact ⟨rfl, _, H9.out, Y9.out, OX.out, SX.out⟩
end
end Go.Proofs.YtfnedeaemjchgaaGreat
/- Marks behind marks: append of a whole slice of them. -/
namespace Go.Proofs.YtfnedeaemjchgaaGreat
open Go.RowKit Go.Maps
set_option linter.unusedSimpArgs false
set_option linter.unusedVariables false

theorem mkv_append (l r : List (Nat × Sec)) : mkv (l ++ r) = mkv l ++ mkv r := by simp [mkv]
theorem mkv_one (l : List (Nat × Sec)) : ∀ u ∈ mkv l, u.oneCell' = true := by
  intro u hu
  simp only [mkv, List.mem_flatten, List.mem_map] at hu
  obtain ⟨_, ⟨x, _, rfl⟩, hu⟩ := hu
  simp at hu
  rcases hu with rfl | rfl <;> rfl
theorem OMk.made (w : World) (x : Nat × Sec) : OMk (w.alloc (.cells #[.int .i64 (x.1 : Int), .string (strOf x.2)] 41)) (.slice (some ⟨w.heap.size, 0, none⟩) 1 1) [x] :=
  ⟨rfl, .inr ⟨w.heap.size, 1, _, rfl, Nat.zero_le _, heap_new w _, Nat.le_refl _, by unfold maxLen; omega, rfl, by simp [mkv]⟩⟩
/-- A slice of marks that is only read. -/
theorem run_append_marks {w : World} (ty : TypeId) (v x : Value) (l r : List (Nat × Sec)) (hown : OMk w v l) (hx : OMk w x r) (hn : l.length + r.length ≤ 1048576) :
    ∃ a cap w', (Builtin.append_ #[42, 42] ty #[v, x]).run Tryz.prog w = .ok (.slice a (l.length + r.length) cap) w' ∧ OMk w' (.slice a (l.length + r.length) cap) (l ++ r) ∧ Ext w v w' (.slice a (l.length + r.length) cap) := by
  obtain ⟨i, hi, hz⟩ := Option.map_eq_some_iff.1 info_mark
  simp only [Prod.mk.injEq] at hz
  obtain ⟨z1, z2, z3⟩ := hz
  by_cases h0 : r.length = 0
  · obtain rfl : r = [] := List.eq_nil_of_length_eq_zero h0
    obtain ⟨a, cap, rfl⟩ := hown.shape
    obtain ⟨ao, capx, rfl⟩ := hx.shape
    refine ⟨a, cap, w, run_append_empty (P := Tryz.prog) 0 42 ty 41 i 2 Tryz.underlying42 hi _ _ _ hown ao capx, by simpa using hown, by simpa using Ext.refl w _⟩
  · rcases hx.2 with ⟨_, hn0⟩ | ⟨g, capx, cur, rfl, _, hg, hcap, _, hsz, htk⟩
    · omega
    have hcell : ∀ (j : Nat) (u : Value), (mkv r)[j]? = some u → w.cell? ((⟨g, 0, none⟩ : Addr).add j) = some u := fun j u hj => by
      have hadd : (⟨g, 0, none⟩ : Addr).add j = ⟨g, j, none⟩ := by unfold Addr.add; split <;> simp_all
      have hlt : j < (mkv r).length := (List.getElem?_eq_some_iff.1 hj).1
      rw [mkv_length] at hlt
      rw [hadd, cell_at _ hg]
      rw [← htk, List.getElem?_take_of_lt (by omega)] at hj
      simpa using hj
    obtain ⟨v', w', hr, k1, k2, _, k5⟩ := run_append_own_at (P := Tryz.prog) w 0 42 ty 41 i (.agg #[.int .i64 0, .string ⟨#[]⟩]) 2 24 Tryz.underlying42 hi z1 z2 z3 rfl (by omega) v l.length (mkv l) hown ⟨g, 0, none⟩ r.length capx (mkv r) (by rw [mkv_length, Nat.mul_comm]) hcell (mkv_one r) (by unfold maxLen; omega) (by omega) (Nat.zero_le _)
    have hsh : ∃ a cap, v' = .slice a (l.length + r.length) cap := by
      rcases k1.2 with ⟨_, hn⟩ | ⟨g, cap, cur, rfl, _⟩
      · omega
      · exact ⟨_, _, rfl⟩
    obtain ⟨a, cap, rfl⟩ := hsh
    refine ⟨a, cap, w', hr, ?_, Only.of_grown k2, fun g hg => ?_⟩
    · unfold OMk
      rw [mkv_append, List.length_append]
      exact k1
    · rcases k5 with k5 | k5
      · exact .inl (by rw [← k5]; exact hg)
      · rw [k5] at hg
        exact .inr (Nat.le_of_eq (Option.some.inj hg))
section
variable {w : World} {ops : Array Oper} {rest : List Oper} {o : Oper} {a : Act} {Q : Exit → Act → World → Prop}
theorem step_append_marks {K : Act → World → Prop} {E : Prop} (hg : o.guard = none) (s x : Operand) (hop : o.op = Op.call { callee := Callee.builtin Builtin.append, args := #[s, x], argTypes := #[42, 42] })
    (v xv : Value) (l r : List (Nat × Sec)) (hs : a.eval s = v) (hown : OMk w v l) (hx : a.eval x = xv) (hr : OMk w xv r) (hn : l.length + r.length ≤ 1048576)
    (hK : ∀ a' cap w', OMk w' (.slice a' (l.length + r.length) cap) (l ++ r) → Ext w v w' (.slice a' (l.length + r.length) cap) → K (a.put o.dst (.slice a' (l.length + r.length) cap)) w') :
    if Region.wanted o (yielded ops a.tmps) = true then Oper.wp Tryz.prog o a w K Q else E := by
  have hw : Region.wanted o (yielded ops a.tmps) = true := by simp [Region.wanted, hg]
  rw [if_pos hw]
  obtain ⟨a', cap, w', hrun, k1, k2⟩ := run_append_marks o.type v xv l r hown hr hn
  unfold Oper.wp
  simp [execOp, hop, resolve, invoke, builtin, hs, hx, hrun, Result.andThen]
  exact hK a' cap w' k1 k2
end
end Go.Proofs.YtfnedeaemjchgaaGreat
