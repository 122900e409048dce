/- One call by both devices: Write of two parts. -/
import Derived.Test.YtchljhjngnbclaaPlay4
namespace Go.Proofs.Ytchljhjngnbclaa
open Go.RowKit Go.Maps
set_option linter.unusedSimpArgs false
set_option linter.unusedVariables false

section
variable {w0 w : World} {a : DA} {b : RA} {D : Disk} {R : Ref} {at_ n : Int} {bv kv : Value}

theorem Only.drawn {S : List Nat} {w w' : World} (h : Only S w w') : Only S w.drew w' := ⟨h.os, h.tape, h.output, h.size, h.block⟩
theorem fits_two {l : Sec} (hl : l.length ≤ 65536) (k : Nat) : Fits [l.take k, l.drop k] := ⟨by simp, fun x hx => by
  simp at hx
  rcases hx with rfl | rfl
  · simp
    omega
  · simp
    omega⟩
theorem parts_two {w : World} {g k : Nat} {l : Sec} (hc : CopyB w.drew g l) (hk : k ≤ l.length) :
    Parts (w.alloc (.cells #[.slice (some ⟨g, 0, none⟩) k (l.length + 2), .slice (some ⟨g, k, none⟩) (l.length - k) (l.length + 2 - k)] 34)).drew (.slice (some ⟨w.heap.size, 0, none⟩) 2 2) [l.take k, l.drop k] := by
  have o : Only [] w.drew (w.alloc (.cells #[.slice (some ⟨g, 0, none⟩) k (l.length + 2), .slice (some ⟨g, k, none⟩) (l.length - k) (l.length + 2 - k)] 34)).drew := ((Only.refl [] w).alloc (.cells #[.slice (some ⟨g, 0, none⟩) k (l.length + 2), .slice (some ⟨g, k, none⟩) (l.length - k) (l.length + 2 - k)] 34)).drew.drawn
  have hb := (hc.kept o (by simp)).bytes
  have hh := heap_new w (.cells #[.slice (some ⟨g, 0, none⟩) k (l.length + 2), .slice (some ⟨g, k, none⟩) (l.length - k) (l.length + 2 - k)] 34)
  obtain ⟨_, _, e, hcell⟩ := hb
  cases e
  have hcell' : ∀ (i : Nat) (c : UInt8), l[i]? = some c → (w.alloc (.cells #[.slice (some ⟨g, 0, none⟩) k (l.length + 2), .slice (some ⟨g, k, none⟩) (l.length - k) (l.length + 2 - k)] 34)).drew.cell? ⟨g, i, none⟩ = some (.int .u8 c.toNat) := fun i c hi => by
    obtain ⟨b', off', e', h'⟩ := hcell i c hi
    cases e'
    rw [Nat.zero_add] at h'
    exact h'
  refine ⟨_, 2, rfl, fun i x hi => ?_⟩
  rcases i with _ | _ | i
  · simp at hi
    subst hi
    refine ⟨w.heap.size, 0, .slice (some ⟨g, 0, none⟩) k (l.length + 2), rfl, (cell_at 0 hh).trans rfl, ⟨_, l.length + 2, by rw [List.length_take, Nat.min_eq_left hk], fun j c hj => ⟨g, 0, rfl, ?_⟩⟩⟩
    have hjk : j < k := by
      have := (List.getElem?_eq_some_iff.1 hj).1
      simp at this
      omega
    rw [List.getElem?_take_of_lt hjk] at hj
    rw [Nat.zero_add]
    exact hcell' j c hj
  · simp at hi
    subst hi
    refine ⟨w.heap.size, 0, .slice (some ⟨g, k, none⟩) (l.length - k) (l.length + 2 - k), rfl, (cell_at 1 hh).trans rfl, ⟨_, l.length + 2 - k, by rw [List.length_drop], fun j c hj => ⟨g, k, rfl, ?_⟩⟩⟩
    rw [List.getElem?_drop] at hj
    exact hcell' (k + j) c hj
  · simp at hi

set_option maxRecDepth 100000 in
set_option maxHeartbeats 1600000 in
theorem play_parts (h : Pair w0 w [] a b D R) (hm : Match D R) (l : Sec) (hv : Bytes w0 bv l) (hl : l.length ≤ 65536) :
    Calls Try.prog 14 #[.pointer (some ⟨a.p, 0, none⟩), .pointer (some ⟨b.p, 0, none⟩), .agg (opCells 0 at_ n bv kv)] w (PlayPost w0 a b) := by
  have p1 := Lib.hid (h.quiet ((Only.refl [] w).alloc (.cells (opCells 0 at_ n bv kv) 37)))
  have B1 := heap_new w (.cells (opCells 0 at_ n bv kv) 37)
  have c0 : (w.alloc (.cells (opCells 0 at_ n bv kv) 37)).cell? ⟨w.heap.size, 0, none⟩ = some (.int .i64 0) := (cell_at 0 B1).trans rfl
  have c3 : (w.alloc (.cells (opCells 0 at_ n bv kv) 37)).cell? ⟨w.heap.size, 3, none⟩ = some bv := (cell_at 3 B1).trans rfl
  have HM := Lib.hid hm
  have HV := Lib.hid hv
  have l0 : (0 : Int) ≤ (l.length : Int) := by omega
  have l1 : (l.length : Int) ≤ 65536 := by omega
  have hws : w0.heap.size ≤ w.heap.size := h.st.only.size
  clear h hm hv
  generalize hg5 : w.heap.size = g5 at B1 c0 c3
  have HB := Lib.hid B1
  have hw5 : w0.heap.size ≤ g5 := by omega
  clear B1
  go_enter Try.func14, Try.ntmps14
  go_wp2_with fail
  refine (Copy_any bv l _ (HV.out.kept p1.out.st.only (clean_nil _)) hl).mono ?_
  rintro e w2 ⟨g, rfl, hc, hg, o2⟩
  have hge : w.heap.size + 1 ≤ g := by simpa using hg
  rw [hg5] at hge
  have B2 := Lib.hid (o2.heap HB.out (by simp))
  have C2 := Lib.hid hc
  have p2 := Lib.hid ((p1.out.fresh (F' := [g]) (fun k hk => .inr (by simp at hk; subst hk; exact hg))).quiet o2)
  have c2' : w2.cell? ⟨g5, 2, none⟩ = some (.int .i64 n) := (cell_at 2 B2.out).trans rfl
  clear hg hc c0 c3 hg5 HB o2 p1
  go_wp2_with fail
  obtain ⟨k, hk⟩ : ∃ k : Nat, min (max n 0) (l.length : Int) = (k : Int) := ⟨(min (max n 0) (l.length : Int)).toNat, by omega⟩
  have hkl : k ≤ l.length := by omega
  rw [hk]
  clear hk c2'
  have k0 : (0 : Int) ≤ (k : Int) := by omega
  have k1 : (k : Int) ≤ (l.length : Int) := by omega
  have k2 : (k : Int) ≤ (l.length : Int) + 2 := by omega
  have q2 := Lib.hid (p2.out.quiet ((Only.refl [] w2).drew))
  have B3 := Lib.hid (show w2.drew.heap[g5]? = _ from B2.out)
  have C3 := Lib.hid (C2.out.kept ((Only.refl [] w2).drew) (by simp))
  have e1 : w2.drew.cell? ⟨g5, 1, none⟩ = some (.int .i64 at_) := (cell_at 1 B3.out).trans rfl
  have e3 : w2.drew.cell? ⟨g5, 3, none⟩ = some bv := (cell_at 3 B3.out).trans rfl
  clear p2 B2 C2
  refine wp_region_held_drew (S := fun w' => w'.cell? ⟨g5, 1, none⟩ = some (.int .i64 at_) ∧ w'.cell? ⟨g5, 3, none⟩ = some bv) (by kernel_rfl) ⟨e1, e3⟩ (fun hH => ?_)
  refine take_list (i := 0) (v := ?_) rfl (by kernel_rfl) (by kernel_rfl) (by kernel_rfl) (fun _ _ _ h => h) (Or.inl ⟨by rfl, ?_⟩) hH ?_
  rotate_left
  · ((intro w hSw; (try dsimp only at hSw); go_simp); try with_reducible rfl)
  simp only [Act.put, List.setIfInBounds_toArray, List.set_cons_zero, List.set_cons_succ]
  refine take_list (i := 1) (v := ?_) rfl (by kernel_rfl) (by kernel_rfl) (by kernel_rfl) (fun _ _ _ h => h) (Or.inl ⟨by rfl, ?_⟩) hH ?_
  rotate_left
  · ((intro w hSw; (try dsimp only at hSw); go_simp); try with_reducible rfl)
  simp only [Act.put, List.setIfInBounds_toArray, List.set_cons_zero, List.set_cons_succ]
  refine take_list (i := 2) (v := ?_) rfl (by kernel_rfl) (by kernel_rfl) (by kernel_rfl) (fun _ _ _ h => h) (Or.inl ⟨by rfl, ?_⟩) hH ?_
  rotate_left
  · ((intro w hSw; (try dsimp only at hSw); go_simp); try with_reducible rfl)
  simp only [Act.put, List.setIfInBounds_toArray, List.set_cons_zero, List.set_cons_succ]
  refine take_list (i := 3) (v := ?_) rfl (by kernel_rfl) (by kernel_rfl) (by kernel_rfl) (fun _ _ _ h => h) (Or.inl ⟨by rfl, ?_⟩) hH ?_
  rotate_left
  · ((intro w hSw; (try dsimp only at hSw); go_simp); try with_reducible rfl)
  simp only [Act.put, List.setIfInBounds_toArray, List.set_cons_zero, List.set_cons_succ]
  refine take_list (i := 4) (v := ?_) rfl (by kernel_rfl) (by kernel_rfl) (by kernel_rfl) (fun _ _ _ h => h) (Or.inl ⟨by rfl, ?_⟩) hH ?_
  rotate_left
  · ((intro w hSw; (try dsimp only at hSw); go_simp); try with_reducible rfl)
  simp only [Act.put, List.setIfInBounds_toArray, List.set_cons_zero, List.set_cons_succ]
  refine take_list (i := 5) (v := ?_) rfl (by kernel_rfl) (by kernel_rfl) (by kernel_rfl) (fun _ _ _ h => h) (Or.inl ⟨by rfl, ?_⟩) hH ?_
  rotate_left
  · ((intro w hSw; (try dsimp only at hSw); go_simp); try with_reducible rfl)
  simp only [Act.put, List.setIfInBounds_toArray, List.set_cons_zero, List.set_cons_succ]
  refine take_list (i := 6) (v := ?_) rfl (by kernel_rfl) (by kernel_rfl) (by kernel_rfl) (fun _ _ _ h => h) (Or.inl ⟨by rfl, ?_⟩) hH ?_
  rotate_left
  · ((intro w hSw; (try dsimp only at hSw); go_simp); try with_reducible rfl)
  simp only [Act.put, List.setIfInBounds_toArray, List.set_cons_zero, List.set_cons_succ]
  refine take_list (i := 7) (v := ?_) rfl (by kernel_rfl) (by kernel_rfl) (by kernel_rfl) (fun _ _ _ h => h) (Or.inl ⟨by rfl, ?_⟩) hH ?_
  rotate_left
  · ((intro w hSw; (try dsimp only at hSw); go_simp); try with_reducible rfl)
  simp only [Act.put, List.setIfInBounds_toArray, List.set_cons_zero, List.set_cons_succ]
  refine take_list (i := 8) (v := ?_) rfl (by kernel_rfl) (by kernel_rfl) (by kernel_rfl) (fun _ _ _ h => h) (Or.inl ⟨by rfl, ?_⟩) hH ?_
  rotate_left
  · ((intro w hSw; (try dsimp only at hSw); go_simp); try with_reducible rfl)
  simp only [Act.put, List.setIfInBounds_toArray, List.set_cons_zero, List.set_cons_succ]
  refine take_list (i := 12) (v := ?_) rfl (by kernel_rfl) (by kernel_rfl) (by kernel_rfl) (fun _ _ _ h => h) (Or.inl ⟨by rfl, ?_⟩) hH ?_
  rotate_left
  · ((intro w hSw; (try dsimp only at hSw); go_simp); try with_reducible rfl)
  simp only [Act.put, List.setIfInBounds_toArray, List.set_cons_zero, List.set_cons_succ]
  refine take_list (i := 13) (v := ?_) rfl (by kernel_rfl) (by kernel_rfl) (by kernel_rfl) (fun _ _ _ h => h) (Or.inl ⟨by rfl, ?_⟩) hH ?_
  rotate_left
  · ((intro w hSw; (try dsimp only at hSw); go_simp); try with_reducible rfl)
  simp only [Act.put, List.setIfInBounds_toArray, List.set_cons_zero, List.set_cons_succ]
  refine take_list (i := 14) (v := ?_) rfl (by kernel_rfl) (by kernel_rfl) (by kernel_rfl) (fun _ _ _ h => h) (Or.inl ⟨by rfl, ?_⟩) hH ?_
  rotate_left
  · ((intro w hSw; (try dsimp only at hSw); go_simp); try with_reducible rfl)
  simp only [Act.put, List.setIfInBounds_toArray, List.set_cons_zero, List.set_cons_succ]
  refine take_list (i := 15) (v := ?_) rfl (by kernel_rfl) (by kernel_rfl) (by kernel_rfl) (fun _ _ _ h => h) (Or.inl ⟨by rfl, ?_⟩) hH ?_
  rotate_left
  · ((intro w hSw; (try dsimp only at hSw); go_simp); try with_reducible rfl)
  simp only [Act.put, List.setIfInBounds_toArray, List.set_cons_zero, List.set_cons_succ]
  refine take_list (i := 16) (v := ?_) rfl (by kernel_rfl) (by kernel_rfl) (by kernel_rfl) (fun _ _ _ h => h) (Or.inl ⟨by rfl, ?_⟩) hH ?_
  rotate_left
  · ((intro w hSw; (try dsimp only at hSw); go_simp); try with_reducible rfl)
  simp only [Act.put, List.setIfInBounds_toArray, List.set_cons_zero, List.set_cons_succ]
  refine wpAnyH_ready (rs := [9]) (by kernel_rfl) (by simp) ?_
  refine ready_list rfl (fun K hK => ?_)
  go_simp
  have hif : ¬ (l.length + 2 = k) := by omega
  rw [if_neg hif]
  clear hif
  have o3 : Only [] w2.drew (w2.alloc (.cells #[.slice (some ⟨g, 0, none⟩) k (l.length + 2), .slice (some ⟨g, k, none⟩) (l.length - k) (l.length + 2 - k)] 34)).drew := ((Only.refl [] w2).alloc (.cells #[.slice (some ⟨g, 0, none⟩) k (l.length + 2), .slice (some ⟨g, k, none⟩) (l.length - k) (l.length + 2 - k)] 34)).drew.drawn
  have P3 := Lib.hid (parts_two C3.out hkl)
  have q3 := Lib.hid (q2.out.quiet o3)
  have B4 := Lib.hid (o3.heap B3.out (by simp))
  have C4 := Lib.hid (C3.out.kept o3 (by simp))
  refine hK.out _ _ ⟨(cell_at 1 B4.out).trans rfl, (cell_at 3 B4.out).trans rfl⟩ (fun hH => ?_)
  clear hK K q2 B3 C3 e1 e3 o3
  refine wpAnyH_ready (rs := [10]) (by kernel_rfl) (by simp) ?_
  refine ready_list rfl (fun K hK => ?_)
  go_simp
  refine (write_all at_ _ [l.take k, l.drop k] q3.out.st.dev P3.out (fits_two hl k)).mono ?_
  rintro e w5 ⟨rfl, d5, o5⟩
  rw [show [l.take k, l.drop k].flatten = l from by simp] at d5 ⊢
  have q5 := Lib.hid (q3.out.setA o5 d5)
  have B5 := Lib.hid (o5.heap B4.out (q3.out.apart B4.out (by decide) (by decide) (by decide) (by decide)).1)
  have hga : g ∉ a.bl ∧ g ∉ b.bl := by
    obtain ⟨cur, hcur, _⟩ := C4.out
    exact q3.out.apart hcur (by decide) (by decide) (by decide) (by decide)
  have C5 := Lib.hid (C4.out.kept o5 hga.1)
  refine hK.out _ _ ⟨(cell_at 1 B5.out).trans rfl, (cell_at 3 B5.out).trans rfl⟩ (fun hH => ?_)
  clear hK K q3 B4 C4 P3 d5 o5
  refine wpAnyH_ready (rs := [11]) (by kernel_rfl) (by simp) ?_
  refine ready_list rfl (fun K hK => ?_)
  go_simp
  refine (num_any _ _).mono ?_
  rintro e w' ⟨rfl, rfl⟩
  refine hK.out _ _ hH (fun hH => ?_)
  clear hK K
  refine wpAnyH_ready (rs := [17]) (by kernel_rfl) (by simp) ?_
  refine ready_list rfl (fun K hK => ?_)
  go_simp
  have hoff : Off bv [b.p] := fun ad m c e hm hmem => (q5.out.off HV.out).2 ad m c e hm (by simp at hmem; simp [RA.bl, hmem])
  have hgl : ∀ x ∈ [g], x < w5.heap.size := fun x hx => by
    obtain ⟨cur, hcur, _⟩ := C5.out
    simp at hx
    subst hx
    exact lt_of_heap hcur
  refine (Write_ref_all at_ _ l q5.out.ref (HV.out.kept q5.out.st.only (clean_nil _)) hoff hgl).mono ?_
  rintro e w6 ⟨rfl, r6, o6⟩
  have q6 := Lib.hid (q5.out.setB o6 r6)
  have B6 := Lib.hid (o6.heap B5.out (q5.out.apart B5.out (by decide) (by decide) (by decide) (by decide)).2)
  have C6 := Lib.hid (C5.out.kept o6 hga.2)
  have hcode := HM.out.code at_ l.length
  generalize R.code at_ l.length = x at hcode ⊢
  subst hcode
  refine hK.out _ _ ⟨(cell_at 1 B6.out).trans rfl, (cell_at 3 B6.out).trans rfl⟩ (fun hH => ?_)
  clear hK K q5 B5 C5 r6 o6 hoff hgl
  refine take_list (i := 18) (v := ?_) rfl (by kernel_rfl) (by kernel_rfl) (by kernel_rfl) (fun _ _ _ h => h) (Or.inl ⟨by rfl, ?_⟩) hH ?_
  rotate_left
  · ((intro w hSw; (try dsimp only at hSw); go_simp); try with_reducible rfl)
  simp only [Act.put, List.setIfInBounds_toArray, List.set_cons_zero, List.set_cons_succ]
  refine take_list (i := 19) (v := ?_) rfl (by kernel_rfl) (by kernel_rfl) (by kernel_rfl) (fun _ _ _ h => h) (Or.inl ⟨by rfl, ?_⟩) hH ?_
  rotate_left
  · ((intro w hSw; (try dsimp only at hSw); go_simp); try with_reducible rfl)
  simp only [Act.put, List.setIfInBounds_toArray, List.set_cons_zero, List.set_cons_succ]
  refine take_list (i := 20) (v := ?_) rfl (by kernel_rfl) (by kernel_rfl) (by kernel_rfl) (fun _ _ _ h => h) (Or.inl ⟨by rfl, ?_⟩) hH ?_
  rotate_left
  · ((intro w hSw; (try dsimp only at hSw); go_simp); try with_reducible rfl)
  simp only [Act.put, List.setIfInBounds_toArray, List.set_cons_zero, List.set_cons_succ]
  refine take_list (i := 21) (v := ?_) rfl (by kernel_rfl) (by kernel_rfl) (by kernel_rfl) (fun _ _ _ h => h) (Or.inl ⟨by rfl, ?_⟩) hH ?_
  rotate_left
  · ((intro w hSw; (try dsimp only at hSw); go_simp); try with_reducible rfl)
  simp only [Act.put, List.setIfInBounds_toArray, List.set_cons_zero, List.set_cons_succ]
  refine take_list (i := 22) (v := ?_) rfl (by kernel_rfl) (by kernel_rfl) (by kernel_rfl) (fun _ _ _ h => h) (Or.inl ⟨by rfl, ?_⟩) hH ?_
  rotate_left
  · ((intro w hSw; (try dsimp only at hSw); go_simp); try with_reducible rfl)
  simp only [Act.put, List.setIfInBounds_toArray, List.set_cons_zero, List.set_cons_succ]
  refine wpAnyH_ready (rs := [23]) (by kernel_rfl) (by simp) ?_
  refine ready_list rfl (fun K hK => ?_)
  go_simp
  refine (Kept_any g bv l _ C6.out (HV.out.kept q6.out.st.only (clean_nil _)) hl).mono ?_
  rintro e w7 ⟨rfl, o7⟩
  have q7 := Lib.hid (q6.out.quiet o7)
  have B7 := Lib.hid (o7.heap B6.out (by simp))
  have C7 := Lib.hid (C6.out.kept o7 (by simp))
  refine hK.out _ _ ⟨(cell_at 1 B7.out).trans rfl, (cell_at 3 B7.out).trans rfl⟩ (fun hH => ?_)
  clear hK K q6 B6 C6 o7
  refine take_list (i := 24) (v := ?_) rfl (by kernel_rfl) (by kernel_rfl) (by kernel_rfl) (fun _ _ _ h => h) (Or.inl ⟨by rfl, ?_⟩) hH ?_
  rotate_left
  · ((intro w hSw; (try dsimp only at hSw); go_simp); try with_reducible rfl)
  simp only [Act.put, List.setIfInBounds_toArray, List.set_cons_zero, List.set_cons_succ]
  refine take_list (i := 25) (v := ?_) rfl (by kernel_rfl) (by kernel_rfl) (by kernel_rfl) (fun _ _ _ h => h) (Or.inl ⟨by rfl, ?_⟩) hH ?_
  rotate_left
  · ((intro w hSw; (try dsimp only at hSw); go_simp); try with_reducible rfl)
  simp only [Act.put, List.setIfInBounds_toArray, List.set_cons_zero, List.set_cons_succ]
  refine wpAnyH_done (by kernel_rfl) ?_ _
  clear hH B7
  go_wp2_with fail
  refine (over_any _ l.length _ (C7.out.row (by unfold maxLen; omega)) (by omega)).mono ?_
  rintro e w8 ⟨rfl, _, o8⟩
  have q8 := Lib.hid ((q7.out.over (g := g) o8 (by omega) (by simp) hga.1 hga.2).drop)
  clear o8 q7 C7
  go_wp2_with fail
  go_ret
  exact ⟨by simp, _, _, q8.out, HM.out.wr at_ l⟩
end
end Go.Proofs.Ytchljhjngnbclaa
