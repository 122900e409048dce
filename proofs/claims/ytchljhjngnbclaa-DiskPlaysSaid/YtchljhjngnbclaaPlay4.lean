/- One call by both devices: Write of a sector that is full of a byte; Write of two parts. -/
import Derived.Test.YtchljhjngnbclaaPlay3
namespace Go.Proofs.Ytchljhjngnbclaa
open Go.RowKit Go.Maps
set_option linter.unusedSimpArgs false
set_option linter.unusedVariables false

section
variable {w0 w : World} {a : DA} {b : RA} {D : Disk} {R : Ref} {at_ n : Int} {bv kv : Value}

set_option maxRecDepth 100000 in
set_option maxHeartbeats 1600000 in
theorem play_full (h : Pair w0 w [] a b D R) (hm : Match D R) :
    Calls Try.prog 14 #[.pointer (some ⟨a.p, 0, none⟩), .pointer (some ⟨b.p, 0, none⟩), .agg (opCells 1 at_ n bv kv)] w (PlayPost w0 a b) := by
  have p1 := Lib.hid (h.quiet ((Only.refl [] w).alloc (.cells (opCells 1 at_ n bv kv) 37)))
  have B1 := heap_new w (.cells (opCells 1 at_ n bv kv) 37)
  have c0 : (w.alloc (.cells (opCells 1 at_ n bv kv) 37)).cell? ⟨w.heap.size, 0, none⟩ = some (.int .i64 1) := (cell_at 0 B1).trans rfl
  have HM := Lib.hid hm
  clear h hm
  generalize hg5 : w.heap.size = g5 at B1 c0
  have HB := Lib.hid B1
  clear B1
  go_enter Try.func14, Try.ntmps14
  go_wp2_with fail
  clear hg5
  generalize w.alloc (.cells (opCells 1 at_ n bv kv) 37) = w1 at p1 HB c0 ⊢
  have q1 := Lib.hid (p1.out.quiet ((Only.refl [] w1).drew))
  have e1 : w1.drew.cell? ⟨g5, 1, none⟩ = some (.int .i64 at_) := (cell_at 1 HB.out).trans rfl
  have e2 : w1.drew.cell? ⟨g5, 2, none⟩ = some (.int .i64 n) := (cell_at 2 HB.out).trans rfl
  have B1 := Lib.hid (show w1.drew.heap[g5]? = _ from HB.out)
  clear p1 c0 HB
  refine wp_region_held_drew (S := fun w' => w'.cell? ⟨g5, 1, none⟩ = some (.int .i64 at_) ∧ w'.cell? ⟨g5, 2, none⟩ = some (.int .i64 n)) (by kernel_rfl) ⟨e1, e2⟩ (fun hH => ?_)
  refine take_list (i := 0) (v := ?_) rfl (by kernel_rfl) (by kernel_rfl) (by kernel_rfl) (fun _ _ _ h => h) (Or.inl ⟨by rfl, ?_⟩) hH ?_
  rotate_left
  · ((intro w hSw; (try dsimp only at hSw); go_simp); try with_reducible rfl)
  simp only [Act.put, List.setIfInBounds_toArray, List.set_cons_zero, List.set_cons_succ]
  refine take_list (i := 1) (v := ?_) rfl (by kernel_rfl) (by kernel_rfl) (by kernel_rfl) (fun _ _ _ h => h) (Or.inl ⟨by rfl, ?_⟩) hH ?_
  rotate_left
  · ((intro w hSw; (try dsimp only at hSw); go_simp); try with_reducible rfl)
  simp only [Act.put, List.setIfInBounds_toArray, List.set_cons_zero, List.set_cons_succ]
  refine take_list (i := 2) (v := ?_) rfl (by kernel_rfl) (by kernel_rfl) (by kernel_rfl) (fun _ _ _ h => h) (Or.inl ⟨by rfl, ?_⟩) hH ?_
  rotate_left
  · ((intro w hSw; (try dsimp only at hSw); go_simp); try with_reducible rfl)
  simp only [Act.put, List.setIfInBounds_toArray, List.set_cons_zero, List.set_cons_succ]
  refine take_list (i := 3) (v := ?_) rfl (by kernel_rfl) (by kernel_rfl) (by kernel_rfl) (fun _ _ _ h => h) (Or.inl ⟨by rfl, ?_⟩) hH ?_
  rotate_left
  · ((intro w hSw; (try dsimp only at hSw); go_simp); try with_reducible rfl)
  simp only [Act.put, List.setIfInBounds_toArray, List.set_cons_zero, List.set_cons_succ]
  refine take_list (i := 4) (v := ?_) rfl (by kernel_rfl) (by kernel_rfl) (by kernel_rfl) (fun _ _ _ h => h) (Or.inl ⟨by rfl, ?_⟩) hH ?_
  rotate_left
  · ((intro w hSw; (try dsimp only at hSw); go_simp); try with_reducible rfl)
  simp only [Act.put, List.setIfInBounds_toArray, List.set_cons_zero, List.set_cons_succ]
  refine take_list (i := 9) (v := ?_) rfl (by kernel_rfl) (by kernel_rfl) (by kernel_rfl) (fun _ _ _ h => h) (Or.inl ⟨by rfl, ?_⟩) hH ?_
  rotate_left
  · ((intro w hSw; (try dsimp only at hSw); go_simp); try with_reducible rfl)
  simp only [Act.put, List.setIfInBounds_toArray, List.set_cons_zero, List.set_cons_succ]
  refine take_list (i := 10) (v := ?_) rfl (by kernel_rfl) (by kernel_rfl) (by kernel_rfl) (fun _ _ _ h => h) (Or.inl ⟨by rfl, ?_⟩) hH ?_
  rotate_left
  · ((intro w hSw; (try dsimp only at hSw); go_simp); try with_reducible rfl)
  simp only [Act.put, List.setIfInBounds_toArray, List.set_cons_zero, List.set_cons_succ]
  refine take_list (i := 11) (v := ?_) rfl (by kernel_rfl) (by kernel_rfl) (by kernel_rfl) (fun _ _ _ h => h) (Or.inl ⟨by rfl, ?_⟩) hH ?_
  rotate_left
  · ((intro w hSw; (try dsimp only at hSw); go_simp); try with_reducible rfl)
  simp only [Act.put, List.setIfInBounds_toArray, List.set_cons_zero, List.set_cons_succ]
  refine take_list (i := 12) (v := ?_) rfl (by kernel_rfl) (by kernel_rfl) (by kernel_rfl) (fun _ _ _ h => h) (Or.inl ⟨by rfl, ?_⟩) hH ?_
  rotate_left
  · ((intro w hSw; (try dsimp only at hSw); go_simp); try with_reducible rfl)
  simp only [Act.put, List.setIfInBounds_toArray, List.set_cons_zero, List.set_cons_succ]
  refine take_list (i := 13) (v := ?_) rfl (by kernel_rfl) (by kernel_rfl) (by kernel_rfl) (fun _ _ _ h => h) (Or.inl ⟨by rfl, ?_⟩) hH ?_
  rotate_left
  · ((intro w hSw; (try dsimp only at hSw); go_simp); try with_reducible rfl)
  simp only [Act.put, List.setIfInBounds_toArray, List.set_cons_zero, List.set_cons_succ]
  refine wpAnyH_ready (rs := [5]) (by kernel_rfl) (by simp) ?_
  refine ready_list rfl (fun K hK => ?_)
  go_simp
  refine (full_any n _).mono ?_
  rintro e w2 ⟨g2, rfl, b2, _, o2⟩
  have q2 := Lib.hid (q1.out.quiet o2)
  have B2 := Lib.hid (o2.heap B1.out (by simp))
  have P2 := Lib.hid (parts_one b2 (fullOf_length n))
  refine hK.out _ _ ⟨(cell_at 1 B2.out).trans rfl, (cell_at 2 B2.out).trans rfl⟩ (fun hH => ?_)
  clear hK K q1 B1 b2 o2 e1 e2
  refine wpAnyH_ready (rs := [6]) (by kernel_rfl) (by simp) ?_
  refine ready_list rfl (fun K hK => ?_)
  go_simp
  have q3 := Lib.hid (q2.out.quiet ((Only.refl [] w2).alloc (.cells #[.slice (some ⟨g2, 0, none⟩) 512 512] 34)))
  have B3 := Lib.hid (heap_old (.cells #[.slice (some ⟨g2, 0, none⟩) 512 512] 34) B2.out)
  refine hK.out _ _ ⟨(cell_at 1 B3.out).trans rfl, (cell_at 2 B3.out).trans rfl⟩ (fun hH => ?_)
  clear hK K q2 B2
  refine wpAnyH_ready (rs := [7]) (by kernel_rfl) (by simp) ?_
  refine ready_list rfl (fun K hK => ?_)
  go_simp
  refine (write_all at_ _ [fullOf n] q3.out.st.dev P2.out (fits_one (fullOf_length n))).mono ?_
  rintro e w4 ⟨rfl, d4, o4⟩
  rw [show [fullOf n].flatten = fullOf n from by simp] at d4 ⊢
  have q4 := Lib.hid (q3.out.setA o4 d4)
  have B4 := Lib.hid (o4.heap B3.out (q3.out.apart B3.out (by decide) (by decide) (by decide) (by decide)).1)
  refine hK.out _ _ ⟨(cell_at 1 B4.out).trans rfl, (cell_at 2 B4.out).trans rfl⟩ (fun hH => ?_)
  clear hK K q3 B3 P2 d4 o4
  refine wpAnyH_ready (rs := [8]) (by kernel_rfl) (by simp) ?_
  refine ready_list rfl (fun K hK => ?_)
  go_simp
  refine (num_any _ _).mono ?_
  rintro e w' ⟨rfl, rfl⟩
  refine hK.out _ _ hH (fun hH => ?_)
  clear hK K
  refine wpAnyH_ready (rs := [14]) (by kernel_rfl) (by simp) ?_
  refine ready_list rfl (fun K hK => ?_)
  go_simp
  refine (full_any n _).mono ?_
  rintro e w5 ⟨g5', rfl, b5, _, o5⟩
  have q5 := Lib.hid (q4.out.quiet o5)
  have B5 := Lib.hid (o5.heap B4.out (by simp))
  have V5 := b5.bytes 512
  rw [fullOf_length] at V5
  have hne : g5' ≠ b.p := type_ne b5 q5.out.ref.blk (by decide)
  have O5 : Off (.slice (some ⟨g5', 0, none⟩) 512 512) [b.p] := fun ad m c e _ hmem => by
    cases e
    simp at hmem
    exact hne hmem
  have HV := Lib.hid V5
  have HO := Lib.hid O5
  refine hK.out _ _ ⟨(cell_at 1 B5.out).trans rfl, (cell_at 2 B5.out).trans rfl⟩ (fun hH => ?_)
  clear hK K q4 B4 b5 o5 V5 hne O5
  refine wpAnyH_ready (rs := [15]) (by kernel_rfl) (by simp) ?_
  refine ready_list rfl (fun K hK => ?_)
  go_simp
  refine (Write_ref_all at_ _ (fullOf n) q5.out.ref HV.out HO.out (by simp)).mono ?_
  rintro e w6 ⟨rfl, r6, o6⟩
  have q6 := Lib.hid (q5.out.setB o6 r6)
  have B6 := Lib.hid (o6.heap B5.out (q5.out.apart B5.out (by decide) (by decide) (by decide) (by decide)).2)
  have hcode := HM.out.code at_ (fullOf n).length
  generalize R.code at_ (fullOf n).length = x at hcode ⊢
  subst hcode
  refine hK.out _ _ ⟨(cell_at 1 B6.out).trans rfl, (cell_at 2 B6.out).trans rfl⟩ (fun hH => ?_)
  clear hK K q5 B5 HV HO r6 o6
  refine take_list (i := 16) (v := ?_) rfl (by kernel_rfl) (by kernel_rfl) (by kernel_rfl) (fun _ _ _ h => h) (Or.inl ⟨by rfl, ?_⟩) hH ?_
  rotate_left
  · ((intro w hSw; (try dsimp only at hSw); go_simp); try with_reducible rfl)
  simp only [Act.put, List.setIfInBounds_toArray, List.set_cons_zero, List.set_cons_succ]
  refine take_list (i := 17) (v := ?_) rfl (by kernel_rfl) (by kernel_rfl) (by kernel_rfl) (fun _ _ _ h => h) (Or.inl ⟨by rfl, ?_⟩) hH ?_
  rotate_left
  · ((intro w hSw; (try dsimp only at hSw); go_simp); try with_reducible rfl)
  simp only [Act.put, List.setIfInBounds_toArray, List.set_cons_zero, List.set_cons_succ]
  refine wpAnyH_done (by kernel_rfl) ?_ _
  clear hH
  go_wp2_with fail
  go_ret
  exact ⟨by simp, _, _, q6.out, HM.out.wr at_ (fullOf n)⟩
end
end Go.Proofs.Ytchljhjngnbclaa
