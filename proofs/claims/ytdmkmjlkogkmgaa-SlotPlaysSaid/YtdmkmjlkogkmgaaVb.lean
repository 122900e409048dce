/- One call by both: the argument's cells, filled, Arm, Crash. -/
import Derived.Test.YtdmkmjlkogkmgaaVa
namespace Go.Proofs.Ytdmkmjlkogkmgaa
open Go.RowKit Go.Maps
set_option linter.unusedSimpArgs false
set_option linter.unusedVariables false

abbrev op3 (kind at_ : Int) (rv kv : Value) : Array Value := #[.int .i64 kind, .int .i64 at_, rv, kv]
def PlayP (w0 : World) (q : Nat) (a : DA) (b : RA) (e : Ending) (w' : World) : Prop := e = .returned (.bool true) ∧ ∃ g cs D R sv tv, PS w0 w' [] q g cs a b D R sv tv ∧ Match D R

section
variable {w : World} {ops : Array Oper} {rest : List Oper} {o : Oper} {a : Act} {Q : Exit → Act → World → Prop}
/-- copy of as many bytes as there is room for. -/
theorem wpList_copy_some (hgd : o.guard = none) (d s : Operand) (ho : o.op = .call { callee := .builtin .copy, args := #[d, s], argTypes := #[37, 37] })
    (cur src : Sec) (g n : Nat) (t : TypeId) (hg : w.heap[g]? = some (.cells (enc cur) t (0, 0))) (dCap : Nat) (hd : a.eval d = .slice (some ⟨g, 0, none⟩) n dCap) (hn : n ≤ cur.length) (sv : Value) (hs : a.eval s = sv) (hb : Bytes w sv src)
    (h : ∀ w', w'.heap[g]? = some (.cells (enc (spl cur 0 (src.take n))) t (0, 0)) → Only [g] w w' → wpList Try.prog ops Q rest (a.put o.dst (.int .i64 (src.take n).length)) w') : wpList Try.prog ops Q (o :: rest) a w := by
  obtain ⟨sa, scap, rfl, hc⟩ := hb
  by_cases h0 : (src.take n).length = 0
  · have hnil : src.take n = [] := List.eq_nil_of_length_eq_zero h0
    rw [hnil] at h
    rw [List.length_take] at h0
    refine wpList_copy_nothing hgd d s 37 37 ho 5 Try.underlying37 info_u8 _ sa n dCap _ scap hd hs (by rw [Nat.min_comm] at h0; exact h0) ?_
    exact h w (by simpa [spl] using hg) (Only.refl _ _)
  · rw [List.length_take] at h0
    obtain ⟨b, o0, hsa, _⟩ := hc 0 src[0] (List.getElem?_eq_getElem (by omega))
    subst hsa
    have hadd : ∀ j, (⟨b, o0, none⟩ : Addr).add j = ⟨b, o0 + j, none⟩ := fun j => by unfold Addr.add; split <;> simp_all
    refine wpList_copy_own hgd d s 37 37 ho 5 Try.underlying37 info_u8 g 0 n dCap ⟨b, o0, none⟩ src.length scap hd hs (enc cur) t hg (enc (src.take n)).toList (by simp [Nat.min_comm]) ?_ (by simp; omega) ?_ ?_
    · intro j v hj
      rw [hadd]
      have : (enc (src.take n))[j]? = some v := by simpa using hj
      rw [enc_get] at this
      obtain ⟨c, hcj, rfl⟩ := Option.map_eq_some_iff.1 this
      have hcj' : src[j]? = some c := by
        have hlt := (List.getElem?_eq_some_iff.1 hcj).1
        rw [List.length_take] at hlt
        rwa [List.getElem?_take_of_lt (by omega)] at hcj
      obtain ⟨b', off', e1, hcell⟩ := hc j c hcj'
      cases e1
      exact hcell
    · intro v hv
      exact (Array.all_eq_true_iff_forall_mem.1 (enc_one (src.take n))) v (by simpa using hv)
    · rw [enc_spl]
      have e1 : (goInt ((enc (src.take n)).toList.length : Int)) = .int .i64 ((src.take n).length : Int) := by simp [goInt]
      rw [e1]
      exact h _ (heap_row _ hg) ((Only.refl _ _).setRow (by simp) _)
end
def fill512 (l : Sec) : Sec := spl zeros 0 (l.take 512)
theorem fill512_length (l : Sec) : (fill512 l).length = 512 := by
  unfold fill512
  rw [spl_length _ _ _ (by rw [zeros_length, List.length_take]; omega), zeros_length]
set_option maxRecDepth 100000 in
theorem filled_any (v : Value) (l : Sec) (w : World) (hv : Bytes w v l) :
    Calls Try.prog 32 #[v] w fun e w' => ∃ g, e = .returned (.slice (some ⟨g, 0, none⟩) 512 512) ∧ BBlk w' g (fill512 l) ∧ w.heap.size ≤ g ∧ Only [] w w' := by
  have HV := Lib.hid hv
  obtain ⟨va, vc, rfl, -⟩ := hv
  go_enter Try.func32, Try.ntmps32
  go_wp2_with (first
    | (refine wpList_make512 rfl rfl ?_; intro w1 g1 hb1 hg1 ho1)
    | (refine wpList_copy_some rfl (.tmp 5) (.tmp 6) rfl zeros l g1 512 5 hb1 _ (by rfl) (by rw [zeros_length]; omega) _ (by rfl) (HV.out.kept ho1 (clean_nil _)) ?_; intro w2 hb2 ho2))
  go_ret
  exact ⟨_, rfl, hb2, hg1, ho1.trans ho2 (by simp; omega)⟩

section
variable {w0 w : World} {F : List Nat} {q g : Nat} {a : DA} {b : RA} {D : Disk} {R : Ref} {sv tv : Value} {kind at_ : Int} {rv kv : Value} {cs : Array Value}
theorem Base.sees (h : Base w0 w F q g (op3 kind at_ rv kv) a b D R sv tv) : w.cell? ⟨q, 0, none⟩ = some (.pointer (some ⟨a.p, 0, none⟩)) ∧ w.cell? ⟨q, 1, none⟩ = some (.pointer (some ⟨b.p, 0, none⟩)) ∧ w.cell? ⟨g, 1, none⟩ = some (.int .i64 at_) ∧ w.cell? ⟨g, 2, none⟩ = some rv ∧ w.cell? ⟨g, 3, none⟩ = some kv :=
  ⟨h.cell0, h.cell1, (cell_at 1 h.arg).trans rfl, (cell_at 2 h.arg).trans rfl, (cell_at 3 h.arg).trans rfl⟩
theorem Base.c_kind (h : Base w0 w F q g (op3 kind at_ rv kv) a b D R sv tv) : w.cell? ⟨g, 0, none⟩ = some (.int .i64 kind) := (cell_at 0 h.arg).trans rfl
theorem Base.c_at (h : Base w0 w F q g (op3 kind at_ rv kv) a b D R sv tv) : w.cell? ⟨g, 1, none⟩ = some (.int .i64 at_) := (cell_at 1 h.arg).trans rfl
theorem Base.c_rv (h : Base w0 w F q g (op3 kind at_ rv kv) a b D R sv tv) : w.cell? ⟨g, 2, none⟩ = some rv := (cell_at 2 h.arg).trans rfl
theorem Base.c_kv (h : Base w0 w F q g (op3 kind at_ rv kv) a b D R sv tv) : w.cell? ⟨g, 3, none⟩ = some kv := (cell_at 3 h.arg).trans rfl
theorem PS.boxed (h : PS w0 w F q g cs a b D R sv tv) (kind at_ : Int) (rv kv : Value) : PS w0 (w.alloc (.cells (op3 kind at_ rv kv) 40)) F q w.heap.size (op3 kind at_ rv kv) a b D R sv tv :=
  (h.quiet ((Only.refl [] w).alloc _)).reps (heap_new w _)

set_option maxRecDepth 100000 in
set_option maxHeartbeats 1600000 in
theorem play3_arm (h : PS w0 w [] q g cs a b D R sv tv) (hm : Match D R) (hn : at_ ≤ 9223372036854775807) :
    Calls Try.prog 11 #[.pointer (some ⟨q, 0, none⟩), .agg (op3 3 at_ rv kv)] w (PlayP w0 q a b) := by
  have hs := h.boxed 3 at_ rv kv
  have HM := Lib.hid hm
  clear h hm
  generalize hg5 : w.heap.size = g5 at hs
  have P1 := Lib.hid hs
  have c0 := hs.bs.c_kind
  have c1 := hs.bs.c_at
  clear hs
  go_enter Try.func11, Try.ntmps11
  by_cases h0 : at_ < 0
  · go_wp2_with fail
    go_ret
    exact ⟨rfl, _, _, _, _, _, _, P1.out, HM.out⟩
  have hge : 0 ≤ at_ := by omega
  go_wp2_with fail
  clear c0 c1 hg5
  generalize w.alloc (.cells (op3 3 at_ rv kv) 40) = w1 at P1 ⊢
  have P2 := Lib.hid (P1.out.quiet ((Only.refl [] w1).drew))
  clear P1
  refine wp_region_held_drew (S := fun w' => w'.cell? ⟨q, 0, none⟩ = some (.pointer (some ⟨a.p, 0, none⟩)) ∧ w'.cell? ⟨q, 1, none⟩ = some (.pointer (some ⟨b.p, 0, none⟩)) ∧ w'.cell? ⟨g5, 1, none⟩ = some (.int .i64 at_) ∧ w'.cell? ⟨g5, 2, none⟩ = some rv ∧ w'.cell? ⟨g5, 3, none⟩ = some kv) (by kernel_rfl) P2.out.bs.sees (fun hH => ?_)
  refine take_list (i := 0) (v := ?_) rfl (by kernel_rfl) (by kernel_rfl) (by kernel_rfl) (fun _ _ _ h => h) (Or.inl ⟨by rfl, ?_⟩) hH ?_
  rotate_left
  · ((intro w hSw; (try dsimp only at hSw); go_simp); try with_reducible rfl)
  simp only [Act.put, List.setIfInBounds_toArray, List.set_cons_zero, List.set_cons_succ]
  refine take_list (i := 1) (v := ?_) rfl (by kernel_rfl) (by kernel_rfl) (by kernel_rfl) (fun _ _ _ h => h) (Or.inl ⟨by rfl, ?_⟩) hH ?_
  rotate_left
  · ((intro w hSw; (try dsimp only at hSw); go_simp); try with_reducible rfl)
  simp only [Act.put, List.setIfInBounds_toArray, List.set_cons_zero, List.set_cons_succ]
  refine take_list (i := 2) (v := ?_) rfl (by kernel_rfl) (by kernel_rfl) (by kernel_rfl) (fun _ _ _ h => h) (Or.inl ⟨by rfl, ?_⟩) hH ?_
  rotate_left
  · ((intro w hSw; (try dsimp only at hSw); go_simp); try with_reducible rfl)
  simp only [Act.put, List.setIfInBounds_toArray, List.set_cons_zero, List.set_cons_succ]
  refine take_list (i := 3) (v := ?_) rfl (by kernel_rfl) (by kernel_rfl) (by kernel_rfl) (fun _ _ _ h => h) (Or.inl ⟨by rfl, ?_⟩) hH ?_
  rotate_left
  · ((intro w hSw; (try dsimp only at hSw); go_simp); try with_reducible rfl)
  simp only [Act.put, List.setIfInBounds_toArray, List.set_cons_zero, List.set_cons_succ]
  refine take_list (i := 4) (v := ?_) rfl (by kernel_rfl) (by kernel_rfl) (by kernel_rfl) (fun _ _ _ h => h) (Or.inl ⟨by rfl, ?_⟩) hH ?_
  rotate_left
  · ((intro w hSw; (try dsimp only at hSw); go_simp); try with_reducible rfl)
  simp only [Act.put, List.setIfInBounds_toArray, List.set_cons_zero, List.set_cons_succ]
  refine take_list (i := 5) (v := ?_) rfl (by kernel_rfl) (by kernel_rfl) (by kernel_rfl) (fun _ _ _ h => h) (Or.inl ⟨by rfl, ?_⟩) hH ?_
  rotate_left
  · ((intro w hSw; (try dsimp only at hSw); go_simp); try with_reducible rfl)
  simp only [Act.put, List.setIfInBounds_toArray, List.set_cons_zero, List.set_cons_succ]
  refine wpAnyH_ready (rs := [6]) (by kernel_rfl) (by simp) ?_
  refine ready_list rfl (fun K hK => ?_)
  go_simp
  refine (arm_all at_ P2.out.bs.pr.st.dev hge).mono ?_
  rintro e w3 ⟨rfl, d3, o3⟩
  have P3 := Lib.hid (P2.out.setA o3 d3 rfl)
  refine hK.out _ _ P3.out.bs.sees (fun hH => ?_)
  clear hK K P2 d3 o3
  refine wpAnyH_done (by kernel_rfl) ?_ _
  clear hH
  go_wp2_with fail
  have P4 := Lib.hid (P3.out.quiet ((Only.refl [] w3).drew))
  have c5 : w3.drew.cell? ⟨b.p, 5, none⟩ = some (.bool R.armed) := P4.out.bs.pr.ref.c5
  have f5 : w3.drew.frozen? ⟨b.p, 5, none⟩ = false := P4.out.bs.pr.ref.free 5
  have c6 : w3.cell? ⟨b.p, 6, none⟩ = some (.int .i64 R.left) := P3.out.bs.pr.ref.c6
  have f6 : w3.frozen? ⟨b.p, 6, none⟩ = false := P3.out.bs.pr.ref.free 6
  have hk := heap_cell (g := b.p) (i := 5) (.bool true) P4.out.bs.pr.ref.blk
  have hk2 := heap_cell (g := b.p) (i := 6) (.int .i64 at_) hk
  have o5 : Only [b.p] w3.drew (w3.drew.setCell ⟨b.p, 5, none⟩ (.bool true)) := (Only.refl _ _).setCell (by simp) _
  have o6 : Only [b.p] w3.drew ((w3.drew.setCell ⟨b.p, 5, none⟩ (.bool true)).setCell ⟨b.p, 6, none⟩ (.int .i64 at_)) := o5.setCell (by simp) _
  have r5 : RDev (w3.drew.setCell ⟨b.p, 5, none⟩ (.bool true)) [] b { R with armed := true } := P4.out.bs.pr.ref.turn o5 hk rfl rfl rfl rfl
  have r6 : RDev ((w3.drew.setCell ⟨b.p, 5, none⟩ (.bool true)).setCell ⟨b.p, 6, none⟩ (.int .i64 at_)) [] b { R with armed := true, left := at_ } := P4.out.bs.pr.ref.turn o6 hk2 rfl rfl rfl rfl
  have P5 := Lib.hid (P4.out.setB (o5.mono (by simp [RA.bl])) r5)
  have P6 := Lib.hid (P4.out.setB (o6.mono (by simp [RA.bl])) r6)
  clear hk hk2 o5 o6 r5 r6
  refine wp_region_held_drew (S := fun w' => w'.cell? ⟨q, 0, none⟩ = some (.pointer (some ⟨a.p, 0, none⟩)) ∧ w'.cell? ⟨q, 1, none⟩ = some (.pointer (some ⟨b.p, 0, none⟩)) ∧ w'.cell? ⟨g5, 1, none⟩ = some (.int .i64 at_) ∧ w'.cell? ⟨g5, 2, none⟩ = some rv ∧ w'.cell? ⟨g5, 3, none⟩ = some kv) (by kernel_rfl) P4.out.bs.sees (fun hH => ?_)
  refine take_list (i := 0) (v := ?_) rfl (by kernel_rfl) (by kernel_rfl) (by kernel_rfl) (fun _ _ _ h => h) (Or.inl ⟨by rfl, ?_⟩) hH ?_
  rotate_left
  · ((intro w hSw; (try dsimp only at hSw); go_simp); try with_reducible rfl)
  simp only [Act.put, List.setIfInBounds_toArray, List.set_cons_zero, List.set_cons_succ]
  refine take_list (i := 1) (v := ?_) rfl (by kernel_rfl) (by kernel_rfl) (by kernel_rfl) (fun _ _ _ h => h) (Or.inl ⟨by rfl, ?_⟩) hH ?_
  rotate_left
  · ((intro w hSw; (try dsimp only at hSw); go_simp); try with_reducible rfl)
  simp only [Act.put, List.setIfInBounds_toArray, List.set_cons_zero, List.set_cons_succ]
  refine take_list (i := 2) (v := ?_) rfl (by kernel_rfl) (by kernel_rfl) (by kernel_rfl) (fun _ _ _ h => h) (Or.inl ⟨by rfl, ?_⟩) hH ?_
  rotate_left
  · ((intro w hSw; (try dsimp only at hSw); go_simp); try with_reducible rfl)
  simp only [Act.put, List.setIfInBounds_toArray, List.set_cons_zero, List.set_cons_succ]
  refine take_list (i := 3) (v := ?_) rfl (by kernel_rfl) (by kernel_rfl) (by kernel_rfl) (fun _ _ _ h => h) (Or.inl ⟨by rfl, ?_⟩) hH ?_
  rotate_left
  · ((intro w hSw; (try dsimp only at hSw); go_simp); try with_reducible rfl)
  simp only [Act.put, List.setIfInBounds_toArray, List.set_cons_zero, List.set_cons_succ]
  refine take_list (i := 4) (v := ?_) rfl (by kernel_rfl) (by kernel_rfl) (by kernel_rfl) (fun _ _ _ h => h) (Or.inl ⟨by rfl, ?_⟩) hH ?_
  rotate_left
  · ((intro w hSw; (try dsimp only at hSw); go_simp); try with_reducible rfl)
  simp only [Act.put, List.setIfInBounds_toArray, List.set_cons_zero, List.set_cons_succ]
  refine take_list (i := 5) (v := ?_) rfl (by kernel_rfl) (by kernel_rfl) (by kernel_rfl) (fun _ _ _ h => h) (Or.inl ⟨by rfl, ?_⟩) hH ?_
  rotate_left
  · ((intro w hSw; (try dsimp only at hSw); go_simp); try with_reducible rfl)
  simp only [Act.put, List.setIfInBounds_toArray, List.set_cons_zero, List.set_cons_succ]
  refine take_list (i := 6) (v := ?_) rfl (by kernel_rfl) (by kernel_rfl) (by kernel_rfl) (fun _ _ _ h => h) (Or.inl ⟨by rfl, ?_⟩) hH ?_
  rotate_left
  · ((intro w hSw; (try dsimp only at hSw); go_simp); try with_reducible rfl)
  simp only [Act.put, List.setIfInBounds_toArray, List.set_cons_zero, List.set_cons_succ]
  refine take_list (i := 7) (v := ?_) rfl (by kernel_rfl) (by kernel_rfl) (by kernel_rfl) (fun _ _ _ h => h) (Or.inl ⟨by rfl, ?_⟩) hH ?_
  rotate_left
  · ((intro w hSw; (try dsimp only at hSw); go_simp); try with_reducible rfl)
  simp only [Act.put, List.setIfInBounds_toArray, List.set_cons_zero, List.set_cons_succ]
  refine take_list (i := 8) (v := ?_) rfl (by kernel_rfl) (by kernel_rfl) (by kernel_rfl) (fun _ _ _ h => h) (Or.inl ⟨by rfl, ?_⟩) hH ?_
  rotate_left
  · ((intro w hSw; (try dsimp only at hSw); go_simp); try with_reducible rfl)
  simp only [Act.put, List.setIfInBounds_toArray, List.set_cons_zero, List.set_cons_succ]
  refine take_list (i := 9) (v := ?_) rfl (by kernel_rfl) (by kernel_rfl) (by kernel_rfl) (fun _ _ _ h => h) (Or.inl ⟨by rfl, ?_⟩) hH ?_
  rotate_left
  · ((intro w hSw; (try dsimp only at hSw); go_simp); try with_reducible rfl)
  simp only [Act.put, List.setIfInBounds_toArray, List.set_cons_zero, List.set_cons_succ]
  refine take_list (i := 10) (v := ?_) rfl (by kernel_rfl) (by kernel_rfl) (by kernel_rfl) (fun _ _ _ h => h) (Or.inl ⟨by rfl, ?_⟩) hH ?_
  rotate_left
  · ((intro w hSw; (try dsimp only at hSw); go_simp); try with_reducible rfl)
  simp only [Act.put, List.setIfInBounds_toArray, List.set_cons_zero, List.set_cons_succ]
  refine take_list (i := 11) (v := ?_) rfl (by kernel_rfl) (by kernel_rfl) (by kernel_rfl) (fun _ _ _ h => h) (Or.inl ⟨by rfl, ?_⟩) hH ?_
  rotate_left
  · ((intro w hSw; (try dsimp only at hSw); go_simp); try with_reducible rfl)
  simp only [Act.put, List.setIfInBounds_toArray, List.set_cons_zero, List.set_cons_succ]
  refine wpAnyH_ready (rs := [12]) (by kernel_rfl) (by simp) ?_
  refine ready_list rfl (fun K hK => ?_)
  go_simp
  refine hK.out _ _ P5.out.bs.sees (fun hH => ?_)
  clear hK K
  refine take_list (i := 13) (v := ?_) rfl (by kernel_rfl) (by kernel_rfl) (by kernel_rfl) (fun _ _ _ h => h) (Or.inl ⟨by rfl, ?_⟩) hH ?_
  rotate_left
  · ((intro w hSw; (try dsimp only at hSw); go_simp); try with_reducible rfl)
  simp only [Act.put, List.setIfInBounds_toArray, List.set_cons_zero, List.set_cons_succ]
  refine take_list (i := 14) (v := ?_) rfl (by kernel_rfl) (by kernel_rfl) (by kernel_rfl) (fun _ _ _ h => h) (Or.inl ⟨by rfl, ?_⟩) hH ?_
  rotate_left
  · ((intro w hSw; (try dsimp only at hSw); go_simp); try with_reducible rfl)
  simp only [Act.put, List.setIfInBounds_toArray, List.set_cons_zero, List.set_cons_succ]
  refine wpAnyH_ready (rs := [15]) (by kernel_rfl) (by simp) ?_
  refine ready_list rfl (fun K hK => ?_)
  go_simp
  refine hK.out _ _ P6.out.bs.sees (fun hH => ?_)
  clear hK K
  refine wpAnyH_done (by kernel_rfl) ?_ _
  clear hH
  go_wp2_with fail
  go_ret
  exact ⟨rfl, _, _, _, _, _, _, P6.out, HM.out.arm hge hn⟩

set_option maxRecDepth 100000 in
set_option maxHeartbeats 1600000 in
theorem play3_crash (h : PS w0 w [] q g cs a b D R sv tv) (hm : Match D R) (ks : List Int) (hk : IntsV w0 kv ks) (hkl : ks.length ≤ maxLen) :
    Calls Try.prog 11 #[.pointer (some ⟨q, 0, none⟩), .agg (op3 4 at_ rv kv)] w (PlayP w0 q a b) := by
  have HK := Lib.hid hk
  have hkl' : ks.length ≤ 9223372036854775807 := by unfold maxLen at hkl; omega
  clear hk hkl
  have hs := h.boxed 4 at_ rv kv
  have HM := Lib.hid hm
  clear h hm
  generalize hg5 : w.heap.size = g5 at hs
  have P1 := Lib.hid hs
  have c0 := hs.bs.c_kind
  have c1 := hs.bs.c_at
  clear hs
  go_enter Try.func11, Try.ntmps11
  go_wp2_with fail
  clear c0 c1 hg5
  generalize w.alloc (.cells (op3 4 at_ rv kv) 40) = w1 at P1 ⊢
  have P2 := Lib.hid (P1.out.quiet ((Only.refl [] w1).drew))
  clear P1
  refine wp_region_held_drew (S := fun w' => w'.cell? ⟨q, 0, none⟩ = some (.pointer (some ⟨a.p, 0, none⟩)) ∧ w'.cell? ⟨q, 1, none⟩ = some (.pointer (some ⟨b.p, 0, none⟩)) ∧ w'.cell? ⟨g5, 1, none⟩ = some (.int .i64 at_) ∧ w'.cell? ⟨g5, 2, none⟩ = some rv ∧ w'.cell? ⟨g5, 3, none⟩ = some kv) (by kernel_rfl) P2.out.bs.sees (fun hH => ?_)
  refine take_list (i := 0) (v := ?_) rfl (by kernel_rfl) (by kernel_rfl) (by kernel_rfl) (fun _ _ _ h => h) (Or.inl ⟨by rfl, ?_⟩) hH ?_
  rotate_left
  · ((intro w hSw; (try dsimp only at hSw); go_simp); try with_reducible rfl)
  simp only [Act.put, List.setIfInBounds_toArray, List.set_cons_zero, List.set_cons_succ]
  refine take_list (i := 1) (v := ?_) rfl (by kernel_rfl) (by kernel_rfl) (by kernel_rfl) (fun _ _ _ h => h) (Or.inl ⟨by rfl, ?_⟩) hH ?_
  rotate_left
  · ((intro w hSw; (try dsimp only at hSw); go_simp); try with_reducible rfl)
  simp only [Act.put, List.setIfInBounds_toArray, List.set_cons_zero, List.set_cons_succ]
  refine take_list (i := 2) (v := ?_) rfl (by kernel_rfl) (by kernel_rfl) (by kernel_rfl) (fun _ _ _ h => h) (Or.inl ⟨by rfl, ?_⟩) hH ?_
  rotate_left
  · ((intro w hSw; (try dsimp only at hSw); go_simp); try with_reducible rfl)
  simp only [Act.put, List.setIfInBounds_toArray, List.set_cons_zero, List.set_cons_succ]
  refine take_list (i := 3) (v := ?_) rfl (by kernel_rfl) (by kernel_rfl) (by kernel_rfl) (fun _ _ _ h => h) (Or.inl ⟨by rfl, ?_⟩) hH ?_
  rotate_left
  · ((intro w hSw; (try dsimp only at hSw); go_simp); try with_reducible rfl)
  simp only [Act.put, List.setIfInBounds_toArray, List.set_cons_zero, List.set_cons_succ]
  refine take_list (i := 4) (v := ?_) rfl (by kernel_rfl) (by kernel_rfl) (by kernel_rfl) (fun _ _ _ h => h) (Or.inl ⟨by rfl, ?_⟩) hH ?_
  rotate_left
  · ((intro w hSw; (try dsimp only at hSw); go_simp); try with_reducible rfl)
  simp only [Act.put, List.setIfInBounds_toArray, List.set_cons_zero, List.set_cons_succ]
  refine take_list (i := 5) (v := ?_) rfl (by kernel_rfl) (by kernel_rfl) (by kernel_rfl) (fun _ _ _ h => h) (Or.inl ⟨by rfl, ?_⟩) hH ?_
  rotate_left
  · ((intro w hSw; (try dsimp only at hSw); go_simp); try with_reducible rfl)
  simp only [Act.put, List.setIfInBounds_toArray, List.set_cons_zero, List.set_cons_succ]
  refine wpAnyH_ready (rs := [6]) (by kernel_rfl) (by simp) ?_
  refine ready_list rfl (fun K hK => ?_)
  go_simp
  refine (Crash_any a D kv ks _ P2.out.bs.pr.st.dev (HK.out.kept P2.out.only (fun _ _ _ _ _ => by simp)) (P2.out.bs.pr.offI HK.out).1 hkl').mono ?_
  rintro e w3 ⟨rfl, d3, o3⟩
  have P3 := Lib.hid (P2.out.setA o3 d3 rfl)
  refine hK.out _ _ P3.out.bs.sees (fun hH => ?_)
  clear hK K P2 d3 o3
  refine wpAnyH_done (by kernel_rfl) ?_ _
  clear hH
  go_wp2_with fail
  have P4 := Lib.hid (P3.out.quiet ((Only.refl [] w3).drew))
  clear P3
  refine wp_region_held_drew (S := fun w' => w'.cell? ⟨q, 0, none⟩ = some (.pointer (some ⟨a.p, 0, none⟩)) ∧ w'.cell? ⟨q, 1, none⟩ = some (.pointer (some ⟨b.p, 0, none⟩)) ∧ w'.cell? ⟨g5, 1, none⟩ = some (.int .i64 at_) ∧ w'.cell? ⟨g5, 2, none⟩ = some rv ∧ w'.cell? ⟨g5, 3, none⟩ = some kv) (by kernel_rfl) P4.out.bs.sees (fun hH => ?_)
  refine take_list (i := 0) (v := ?_) rfl (by kernel_rfl) (by kernel_rfl) (by kernel_rfl) (fun _ _ _ h => h) (Or.inl ⟨by rfl, ?_⟩) hH ?_
  rotate_left
  · ((intro w hSw; (try dsimp only at hSw); go_simp); try with_reducible rfl)
  simp only [Act.put, List.setIfInBounds_toArray, List.set_cons_zero, List.set_cons_succ]
  refine take_list (i := 1) (v := ?_) rfl (by kernel_rfl) (by kernel_rfl) (by kernel_rfl) (fun _ _ _ h => h) (Or.inl ⟨by rfl, ?_⟩) hH ?_
  rotate_left
  · ((intro w hSw; (try dsimp only at hSw); go_simp); try with_reducible rfl)
  simp only [Act.put, List.setIfInBounds_toArray, List.set_cons_zero, List.set_cons_succ]
  refine take_list (i := 2) (v := ?_) rfl (by kernel_rfl) (by kernel_rfl) (by kernel_rfl) (fun _ _ _ h => h) (Or.inl ⟨by rfl, ?_⟩) hH ?_
  rotate_left
  · ((intro w hSw; (try dsimp only at hSw); go_simp); try with_reducible rfl)
  simp only [Act.put, List.setIfInBounds_toArray, List.set_cons_zero, List.set_cons_succ]
  refine take_list (i := 3) (v := ?_) rfl (by kernel_rfl) (by kernel_rfl) (by kernel_rfl) (fun _ _ _ h => h) (Or.inl ⟨by rfl, ?_⟩) hH ?_
  rotate_left
  · ((intro w hSw; (try dsimp only at hSw); go_simp); try with_reducible rfl)
  simp only [Act.put, List.setIfInBounds_toArray, List.set_cons_zero, List.set_cons_succ]
  refine take_list (i := 4) (v := ?_) rfl (by kernel_rfl) (by kernel_rfl) (by kernel_rfl) (fun _ _ _ h => h) (Or.inl ⟨by rfl, ?_⟩) hH ?_
  rotate_left
  · ((intro w hSw; (try dsimp only at hSw); go_simp); try with_reducible rfl)
  simp only [Act.put, List.setIfInBounds_toArray, List.set_cons_zero, List.set_cons_succ]
  refine take_list (i := 5) (v := ?_) rfl (by kernel_rfl) (by kernel_rfl) (by kernel_rfl) (fun _ _ _ h => h) (Or.inl ⟨by rfl, ?_⟩) hH ?_
  rotate_left
  · ((intro w hSw; (try dsimp only at hSw); go_simp); try with_reducible rfl)
  simp only [Act.put, List.setIfInBounds_toArray, List.set_cons_zero, List.set_cons_succ]
  refine wpAnyH_ready (rs := [6]) (by kernel_rfl) (by simp) ?_
  refine ready_list rfl (fun K hK => ?_)
  go_simp
  refine (Crash_ref kv ks P4.out.bs.pr.ref (HK.out.kept P4.out.only (fun _ _ _ _ _ => by simp)) (P4.out.bs.pr.offI HK.out).2 hkl').mono ?_
  rintro e w5 ⟨rfl, r5, o5⟩
  have P5 := Lib.hid (P4.out.setB o5 r5)
  refine hK.out _ _ P5.out.bs.sees (fun hH => ?_)
  clear hK K P4 r5 o5
  refine wpAnyH_done (by kernel_rfl) ?_ _
  clear hH
  go_wp2_with fail
  go_ret
  exact ⟨rfl, _, _, _, _, _, _, P5.out, HM.out.crash ks⟩
end
end Go.Proofs.Ytdmkmjlkogkmgaa
/- One call by both: a sector is written, Open. -/
namespace Go.Proofs.Ytdmkmjlkogkmgaa
open Go.RowKit Go.Maps
set_option linter.unusedSimpArgs false
set_option linter.unusedVariables false

theorem MadePost.one {w w' : World} {a : DA} {d' : Disk} {s : SL} {c : Int} {e : Ending} (h : MadePost w a d' s c e w') : ∃ x, e = .returned (.tuple #[.pointer x, errV c]) ∧ ((c ≠ 0 ∧ x = none) ∨ (c = 0 ∧ ∃ p v, x = some ⟨p, 0, none⟩ ∧ Slot w' p a v s ∧ w.heap.size ≤ p ∧ ∀ g, v.ownBlock = some g → w.heap.size ≤ g)) := by
  by_cases hc : c = 0
  · obtain ⟨p, v, rfl, hs, hp, hv⟩ := h.yes hc
    exact ⟨_, by rw [errV_z hc], .inr ⟨hc, p, v, rfl, hs, hp, hv⟩⟩
  · exact ⟨none, by rw [h.no hc, errV_nz hc], .inl ⟨hc, rfl⟩⟩
theorem RMadePost.one {w w' : World} {F : List Nat} {b : RA} {R' : Ref} {s : SL} {c : Int} {e : Ending} (h : RMadePost w F b R' s c e w') : ∃ x, e = .returned (.tuple #[.pointer x, .int .i64 c]) ∧ ((c ≠ 0 ∧ x = none) ∨ (c = 0 ∧ ∃ p v, x = some ⟨p, 0, none⟩ ∧ RSlot w' p b v s ∧ w.heap.size ≤ p ∧ ∀ g, v.ownBlock = some g → w.heap.size ≤ g)) := by
  by_cases hc : c = 0
  · obtain ⟨p, v, rfl, hs, hp, hv⟩ := h.yes hc
    exact ⟨_, by rw [hc], .inr ⟨hc, p, v, rfl, hs, hp, hv⟩⟩
  · exact ⟨none, h.no hc, .inl ⟨hc, rfl⟩⟩
theorem ocode_fit {D : Disk} {at_ : Int} (h : D.ocode at_ = 0) : fitB at_ D.size = true := by
  unfold Disk.ocode at h
  split at h
  · cases h
  · rename_i hx
    simpa using hx
theorem fcode_fit {D : Disk} {at_ : Int} {r : Sec} (h : D.fcode at_ r = 0) : fitB at_ D.size = true := by
  unfold Disk.fcode at h
  split at h
  · cases h
  · rename_i hx
    simpa using hx

section
variable {w0 w : World} {F : List Nat} {q g : Nat} {a : DA} {b : RA} {D : Disk} {R : Ref} {sv tv : Value} {kind at_ : Int} {rv kv : Value} {cs : Array Value}

set_option maxRecDepth 100000 in
set_option maxHeartbeats 1600000 in
theorem play3_write (h : PS w0 w [] q g cs a b D R sv tv) (hm : Match D R) (l : Sec) (hv : Bytes w0 rv l) (h0 : kind ≠ 0) (h1 : kind ≠ 1) (h2 : kind ≠ 2) (h3 : kind ≠ 3) (h4 : kind ≠ 4) :
    Calls Try.prog 11 #[.pointer (some ⟨q, 0, none⟩), .agg (op3 kind at_ rv kv)] w (PlayP w0 q a b) := by
  have HV := Lib.hid hv
  have b0 : (kind == 0) = false := beq_eq_false_iff_ne.2 h0
  have b1 : (kind == 1) = false := beq_eq_false_iff_ne.2 h1
  have b2 : (kind == 2) = false := beq_eq_false_iff_ne.2 h2
  have b3 : (kind == 3) = false := beq_eq_false_iff_ne.2 h3
  have b4 : (kind == 4) = false := beq_eq_false_iff_ne.2 h4
  clear hv h0 h1 h2 h3 h4
  have hs := h.boxed kind at_ rv kv
  have HM := Lib.hid hm
  clear h hm
  generalize hg5 : w.heap.size = g5 at hs
  have P1 := Lib.hid hs
  have c0 := hs.bs.c_kind
  have c1 := hs.bs.c_at
  clear hs
  go_enter Try.func11, Try.ntmps11
  go_wp2_with fail
  clear c0 c1 hg5
  generalize w.alloc (.cells (op3 kind at_ rv kv) 40) = w1 at P1 ⊢
  have P2 := Lib.hid (P1.out.quiet ((Only.refl [] w1).drew))
  clear P1
  refine wp_region_held_drew (S := fun w' => w'.cell? ⟨q, 0, none⟩ = some (.pointer (some ⟨a.p, 0, none⟩)) ∧ w'.cell? ⟨q, 1, none⟩ = some (.pointer (some ⟨b.p, 0, none⟩)) ∧ w'.cell? ⟨g5, 1, none⟩ = some (.int .i64 at_) ∧ w'.cell? ⟨g5, 2, none⟩ = some rv ∧ w'.cell? ⟨g5, 3, none⟩ = some kv) (by kernel_rfl) P2.out.bs.sees (fun hH => ?_)
  refine take_list (i := 0) (v := ?_) rfl (by kernel_rfl) (by kernel_rfl) (by kernel_rfl) (fun _ _ _ h => h) (Or.inl ⟨by rfl, ?_⟩) hH ?_
  rotate_left
  · ((intro w hSw; (try dsimp only at hSw); go_simp); try with_reducible rfl)
  simp only [Act.put, List.setIfInBounds_toArray, List.set_cons_zero, List.set_cons_succ]
  refine take_list (i := 1) (v := ?_) rfl (by kernel_rfl) (by kernel_rfl) (by kernel_rfl) (fun _ _ _ h => h) (Or.inl ⟨by rfl, ?_⟩) hH ?_
  rotate_left
  · ((intro w hSw; (try dsimp only at hSw); go_simp); try with_reducible rfl)
  simp only [Act.put, List.setIfInBounds_toArray, List.set_cons_zero, List.set_cons_succ]
  refine take_list (i := 2) (v := ?_) rfl (by kernel_rfl) (by kernel_rfl) (by kernel_rfl) (fun _ _ _ h => h) (Or.inl ⟨by rfl, ?_⟩) hH ?_
  rotate_left
  · ((intro w hSw; (try dsimp only at hSw); go_simp); try with_reducible rfl)
  simp only [Act.put, List.setIfInBounds_toArray, List.set_cons_zero, List.set_cons_succ]
  refine take_list (i := 3) (v := ?_) rfl (by kernel_rfl) (by kernel_rfl) (by kernel_rfl) (fun _ _ _ h => h) (Or.inl ⟨by rfl, ?_⟩) hH ?_
  rotate_left
  · ((intro w hSw; (try dsimp only at hSw); go_simp); try with_reducible rfl)
  simp only [Act.put, List.setIfInBounds_toArray, List.set_cons_zero, List.set_cons_succ]
  refine take_list (i := 4) (v := ?_) rfl (by kernel_rfl) (by kernel_rfl) (by kernel_rfl) (fun _ _ _ h => h) (Or.inl ⟨by rfl, ?_⟩) hH ?_
  rotate_left
  · ((intro w hSw; (try dsimp only at hSw); go_simp); try with_reducible rfl)
  simp only [Act.put, List.setIfInBounds_toArray, List.set_cons_zero, List.set_cons_succ]
  refine take_list (i := 5) (v := ?_) rfl (by kernel_rfl) (by kernel_rfl) (by kernel_rfl) (fun _ _ _ h => h) (Or.inl ⟨by rfl, ?_⟩) hH ?_
  rotate_left
  · ((intro w hSw; (try dsimp only at hSw); go_simp); try with_reducible rfl)
  simp only [Act.put, List.setIfInBounds_toArray, List.set_cons_zero, List.set_cons_succ]
  refine take_list (i := 6) (v := ?_) rfl (by kernel_rfl) (by kernel_rfl) (by kernel_rfl) (fun _ _ _ h => h) (Or.inl ⟨by rfl, ?_⟩) hH ?_
  rotate_left
  · ((intro w hSw; (try dsimp only at hSw); go_simp); try with_reducible rfl)
  simp only [Act.put, List.setIfInBounds_toArray, List.set_cons_zero, List.set_cons_succ]
  refine take_list (i := 7) (v := ?_) rfl (by kernel_rfl) (by kernel_rfl) (by kernel_rfl) (fun _ _ _ h => h) (Or.inl ⟨by rfl, ?_⟩) hH ?_
  rotate_left
  · ((intro w hSw; (try dsimp only at hSw); go_simp); try with_reducible rfl)
  simp only [Act.put, List.setIfInBounds_toArray, List.set_cons_zero, List.set_cons_succ]
  refine take_list (i := 12) (v := ?_) rfl (by kernel_rfl) (by kernel_rfl) (by kernel_rfl) (fun _ _ _ h => h) (Or.inl ⟨by rfl, ?_⟩) hH ?_
  rotate_left
  · ((intro w hSw; (try dsimp only at hSw); go_simp); try with_reducible rfl)
  simp only [Act.put, List.setIfInBounds_toArray, List.set_cons_zero, List.set_cons_succ]
  refine take_list (i := 13) (v := ?_) rfl (by kernel_rfl) (by kernel_rfl) (by kernel_rfl) (fun _ _ _ h => h) (Or.inl ⟨by rfl, ?_⟩) hH ?_
  rotate_left
  · ((intro w hSw; (try dsimp only at hSw); go_simp); try with_reducible rfl)
  simp only [Act.put, List.setIfInBounds_toArray, List.set_cons_zero, List.set_cons_succ]
  refine take_list (i := 14) (v := ?_) rfl (by kernel_rfl) (by kernel_rfl) (by kernel_rfl) (fun _ _ _ h => h) (Or.inl ⟨by rfl, ?_⟩) hH ?_
  rotate_left
  · ((intro w hSw; (try dsimp only at hSw); go_simp); try with_reducible rfl)
  simp only [Act.put, List.setIfInBounds_toArray, List.set_cons_zero, List.set_cons_succ]
  refine take_list (i := 15) (v := ?_) rfl (by kernel_rfl) (by kernel_rfl) (by kernel_rfl) (fun _ _ _ h => h) (Or.inl ⟨by rfl, ?_⟩) hH ?_
  rotate_left
  · ((intro w hSw; (try dsimp only at hSw); go_simp); try with_reducible rfl)
  simp only [Act.put, List.setIfInBounds_toArray, List.set_cons_zero, List.set_cons_succ]
  refine take_list (i := 16) (v := ?_) rfl (by kernel_rfl) (by kernel_rfl) (by kernel_rfl) (fun _ _ _ h => h) (Or.inl ⟨by rfl, ?_⟩) hH ?_
  rotate_left
  · ((intro w hSw; (try dsimp only at hSw); go_simp); try with_reducible rfl)
  simp only [Act.put, List.setIfInBounds_toArray, List.set_cons_zero, List.set_cons_succ]
  refine take_list (i := 17) (v := ?_) rfl (by kernel_rfl) (by kernel_rfl) (by kernel_rfl) (fun _ _ _ h => h) (Or.inl ⟨by rfl, ?_⟩) hH ?_
  rotate_left
  · ((intro w hSw; (try dsimp only at hSw); go_simp); try with_reducible rfl)
  simp only [Act.put, List.setIfInBounds_toArray, List.set_cons_zero, List.set_cons_succ]
  refine take_list (i := 18) (v := ?_) rfl (by kernel_rfl) (by kernel_rfl) (by kernel_rfl) (fun _ _ _ h => h) (Or.inl ⟨by rfl, ?_⟩) hH ?_
  rotate_left
  · ((intro w hSw; (try dsimp only at hSw); go_simp); try with_reducible rfl)
  simp only [Act.put, List.setIfInBounds_toArray, List.set_cons_zero, List.set_cons_succ]
  refine take_list (i := 19) (v := ?_) rfl (by kernel_rfl) (by kernel_rfl) (by kernel_rfl) (fun _ _ _ h => h) (Or.inl ⟨by rfl, ?_⟩) hH ?_
  rotate_left
  · ((intro w hSw; (try dsimp only at hSw); go_simp); try with_reducible rfl)
  simp only [Act.put, List.setIfInBounds_toArray, List.set_cons_zero, List.set_cons_succ]
  refine wpAnyH_ready (rs := [8]) (by kernel_rfl) (by simp) ?_
  refine ready_list rfl (fun K hK => ?_)
  go_simp
  refine (filled_any rv l _ (HV.out.kept P2.out.only (clean_nil _))).mono ?_
  rintro e w3 ⟨g3, rfl, hb3, _, o3⟩
  have P3 := Lib.hid (P2.out.quiet o3)
  have Q3 := Lib.hid (parts_one hb3 (fill512_length l))
  refine hK.out _ _ P3.out.bs.sees (fun hH => ?_)
  clear hK K P2 hb3 o3
  refine wpAnyH_ready (rs := [9]) (by kernel_rfl) (by simp) ?_
  refine ready_list rfl (fun K hK => ?_)
  go_simp
  have P4 := Lib.hid (P3.out.quiet ((Only.refl [] w3).alloc (.cells #[.slice (some ⟨g3, 0, none⟩) 512 512] 37)))
  refine hK.out _ _ P4.out.bs.sees (fun hH => ?_)
  clear hK K P3
  refine wpAnyH_ready (rs := [10]) (by kernel_rfl) (by simp) ?_
  refine ready_list rfl (fun K hK => ?_)
  go_simp
  refine (write_all at_ _ [fill512 l] P4.out.bs.pr.st.dev Q3.out (fits_one (fill512_length l))).mono ?_
  rintro e w5 ⟨rfl, d5, o5⟩
  rw [show [fill512 l].flatten = fill512 l from by simp] at d5 ⊢
  have P5 := Lib.hid (P4.out.setA o5 d5 (wr_size _ _ _))
  refine hK.out _ _ P5.out.bs.sees (fun hH => ?_)
  clear hK K P4 Q3 d5 o5
  refine wpAnyH_ready (rs := [11]) (by kernel_rfl) (by simp) ?_
  refine ready_list rfl (fun K hK => ?_)
  go_simp
  refine (num_any _ _).mono ?_
  rintro e w' ⟨rfl, rfl⟩
  refine hK.out _ _ hH (fun hH => ?_)
  clear hK K
  refine wpAnyH_ready (rs := [20]) (by kernel_rfl) (by simp) ?_
  refine ready_list rfl (fun K hK => ?_)
  go_simp
  refine (filled_any rv l _ (HV.out.kept P5.out.only (clean_nil _))).mono ?_
  rintro e w6 ⟨g6, rfl, hb6, _, o6⟩
  have P6 := Lib.hid (P5.out.quiet o6)
  have V6 := hb6.bytes 512
  rw [fill512_length] at V6
  have hne : g6 ≠ b.p := type_ne hb6 P6.out.bs.pr.ref.blk (by decide)
  have hof : Off (.slice (some ⟨g6, 0, none⟩) 512 512) [b.p] := fun ad m c e _ hmem => by
    cases e
    simp at hmem
    exact hne hmem
  have HV6 := Lib.hid V6
  have HOF := Lib.hid hof
  refine hK.out _ _ P6.out.bs.sees (fun hH => ?_)
  clear hK K P5 hb6 o6 V6 hne hof
  refine wpAnyH_ready (rs := [21]) (by kernel_rfl) (by simp) ?_
  refine ready_list rfl (fun K hK => ?_)
  go_simp
  refine (Write_ref_all at_ _ (fill512 l) P6.out.bs.pr.ref HV6.out HOF.out (by simp)).mono ?_
  rintro e w7 ⟨rfl, r7, o7⟩
  have P7 := Lib.hid (P6.out.setB o7 r7)
  have hcode := HM.out.code at_ (fill512 l).length
  generalize R.code at_ (fill512 l).length = x at hcode ⊢
  subst hcode
  refine hK.out _ _ P7.out.bs.sees (fun hH => ?_)
  clear hK K P6 HV6 HOF r7 o7
  refine take_list (i := 22) (v := ?_) rfl (by kernel_rfl) (by kernel_rfl) (by kernel_rfl) (fun _ _ _ h => h) (Or.inl ⟨by rfl, ?_⟩) hH ?_
  rotate_left
  · ((intro w hSw; (try dsimp only at hSw); go_simp); try with_reducible rfl)
  simp only [Act.put, List.setIfInBounds_toArray, List.set_cons_zero, List.set_cons_succ]
  refine take_list (i := 23) (v := ?_) rfl (by kernel_rfl) (by kernel_rfl) (by kernel_rfl) (fun _ _ _ h => h) (Or.inl ⟨by rfl, ?_⟩) hH ?_
  rotate_left
  · ((intro w hSw; (try dsimp only at hSw); go_simp); try with_reducible rfl)
  simp only [Act.put, List.setIfInBounds_toArray, List.set_cons_zero, List.set_cons_succ]
  refine wpAnyH_done (by kernel_rfl) ?_ _
  clear hH
  go_wp2_with fail
  go_ret
  exact ⟨by simp, _, _, _, _, _, _, P7.out, HM.out.wr at_ (fill512 l)⟩

set_option maxRecDepth 100000 in
set_option maxHeartbeats 1600000 in
theorem play3_open (h : PS w0 w [] q g cs a b D R sv tv) (hm : Match D R) :
    Calls Try.prog 11 #[.pointer (some ⟨q, 0, none⟩), .agg (op3 1 at_ rv kv)] w (PlayP w0 q a b) := by
  have hs := h.boxed 1 at_ rv kv
  have HM := Lib.hid hm
  clear h hm
  generalize hg5 : w.heap.size = g5 at hs
  have P1 := Lib.hid hs
  have c0 := hs.bs.c_kind
  have c1 := hs.bs.c_at
  clear hs
  go_enter Try.func11, Try.ntmps11
  go_wp2_with fail
  clear c0 c1 hg5
  generalize w.alloc (.cells (op3 1 at_ rv kv) 40) = w1 at P1 ⊢
  have P2 := Lib.hid (P1.out.quiet ((Only.refl [] w1).drew))
  clear P1
  refine wp_region_held_drew (S := fun w' => w'.cell? ⟨q, 0, none⟩ = some (.pointer (some ⟨a.p, 0, none⟩)) ∧ w'.cell? ⟨q, 1, none⟩ = some (.pointer (some ⟨b.p, 0, none⟩)) ∧ w'.cell? ⟨g5, 1, none⟩ = some (.int .i64 at_) ∧ w'.cell? ⟨g5, 2, none⟩ = some rv ∧ w'.cell? ⟨g5, 3, none⟩ = some kv) (by kernel_rfl) P2.out.bs.sees (fun hH => ?_)
  refine take_list (i := 0) (v := ?_) rfl (by kernel_rfl) (by kernel_rfl) (by kernel_rfl) (fun _ _ _ h => h) (Or.inl ⟨by rfl, ?_⟩) hH ?_
  rotate_left
  · ((intro w hSw; (try dsimp only at hSw); go_simp); try with_reducible rfl)
  simp only [Act.put, List.setIfInBounds_toArray, List.set_cons_zero, List.set_cons_succ]
  refine take_list (i := 1) (v := ?_) rfl (by kernel_rfl) (by kernel_rfl) (by kernel_rfl) (fun _ _ _ h => h) (Or.inl ⟨by rfl, ?_⟩) hH ?_
  rotate_left
  · ((intro w hSw; (try dsimp only at hSw); go_simp); try with_reducible rfl)
  simp only [Act.put, List.setIfInBounds_toArray, List.set_cons_zero, List.set_cons_succ]
  refine take_list (i := 2) (v := ?_) rfl (by kernel_rfl) (by kernel_rfl) (by kernel_rfl) (fun _ _ _ h => h) (Or.inl ⟨by rfl, ?_⟩) hH ?_
  rotate_left
  · ((intro w hSw; (try dsimp only at hSw); go_simp); try with_reducible rfl)
  simp only [Act.put, List.setIfInBounds_toArray, List.set_cons_zero, List.set_cons_succ]
  refine take_list (i := 3) (v := ?_) rfl (by kernel_rfl) (by kernel_rfl) (by kernel_rfl) (fun _ _ _ h => h) (Or.inl ⟨by rfl, ?_⟩) hH ?_
  rotate_left
  · ((intro w hSw; (try dsimp only at hSw); go_simp); try with_reducible rfl)
  simp only [Act.put, List.setIfInBounds_toArray, List.set_cons_zero, List.set_cons_succ]
  refine take_list (i := 4) (v := ?_) rfl (by kernel_rfl) (by kernel_rfl) (by kernel_rfl) (fun _ _ _ h => h) (Or.inl ⟨by rfl, ?_⟩) hH ?_
  rotate_left
  · ((intro w hSw; (try dsimp only at hSw); go_simp); try with_reducible rfl)
  simp only [Act.put, List.setIfInBounds_toArray, List.set_cons_zero, List.set_cons_succ]
  refine take_list (i := 5) (v := ?_) rfl (by kernel_rfl) (by kernel_rfl) (by kernel_rfl) (fun _ _ _ h => h) (Or.inl ⟨by rfl, ?_⟩) hH ?_
  rotate_left
  · ((intro w hSw; (try dsimp only at hSw); go_simp); try with_reducible rfl)
  simp only [Act.put, List.setIfInBounds_toArray, List.set_cons_zero, List.set_cons_succ]
  refine wpAnyH_ready (rs := [6]) (by kernel_rfl) (by simp) ?_
  refine ready_list rfl (fun K hK => ?_)
  go_simp
  refine (Open_any at_ P2.out.bs.pr.st.dev).mono ?_
  rintro e w3 ⟨hp, o3⟩
  obtain ⟨x3, rfl, h3⟩ := hp.one
  have P3 := Lib.hid (P2.out.quiet o3)
  have H3 := Lib.hid h3
  have Z3 := Lib.hid (Nat.le_trans P2.out.only.size (Nat.le_refl _))
  refine hK.out _ _ P3.out.bs.sees (fun hH => ?_)
  clear hK K hp h3 o3
  refine take_list (i := 7) (v := ?_) rfl (by kernel_rfl) (by kernel_rfl) (by kernel_rfl) (fun _ _ _ h => h) (Or.inl ⟨by rfl, ?_⟩) hH ?_
  rotate_left
  · ((intro w hSw; (try dsimp only at hSw); go_simp); try with_reducible rfl)
  simp only [Act.put, List.setIfInBounds_toArray, List.set_cons_zero, List.set_cons_succ]
  refine take_list (i := 8) (v := ?_) rfl (by kernel_rfl) (by kernel_rfl) (by kernel_rfl) (fun _ _ _ h => h) (Or.inl ⟨by rfl, ?_⟩) hH ?_
  rotate_left
  · ((intro w hSw; (try dsimp only at hSw); go_simp); try with_reducible rfl)
  simp only [Act.put, List.setIfInBounds_toArray, List.set_cons_zero, List.set_cons_succ]
  refine take_list (i := 9) (v := ?_) rfl (by kernel_rfl) (by kernel_rfl) (by kernel_rfl) (fun _ _ _ h => h) (Or.inl ⟨by rfl, ?_⟩) hH ?_
  rotate_left
  · ((intro w hSw; (try dsimp only at hSw); go_simp); try with_reducible rfl)
  simp only [Act.put, List.setIfInBounds_toArray, List.set_cons_zero, List.set_cons_succ]
  refine take_list (i := 10) (v := ?_) rfl (by kernel_rfl) (by kernel_rfl) (by kernel_rfl) (fun _ _ _ h => h) (Or.inl ⟨by rfl, ?_⟩) hH ?_
  rotate_left
  · ((intro w hSw; (try dsimp only at hSw); go_simp); try with_reducible rfl)
  simp only [Act.put, List.setIfInBounds_toArray, List.set_cons_zero, List.set_cons_succ]
  refine take_list (i := 11) (v := ?_) rfl (by kernel_rfl) (by kernel_rfl) (by kernel_rfl) (fun _ _ _ h => h) (Or.inl ⟨by rfl, ?_⟩) hH ?_
  rotate_left
  · ((intro w hSw; (try dsimp only at hSw); go_simp); try with_reducible rfl)
  simp only [Act.put, List.setIfInBounds_toArray, List.set_cons_zero, List.set_cons_succ]
  refine wpAnyH_done (by kernel_rfl) ?_ _
  clear hH
  go_wp2_with fail
  have P4 := Lib.hid (P3.out.quiet ((Only.refl [] w3).drew))
  refine wp_region_held_drew (S := fun w' => w'.cell? ⟨q, 0, none⟩ = some (.pointer (some ⟨a.p, 0, none⟩)) ∧ w'.cell? ⟨q, 1, none⟩ = some (.pointer (some ⟨b.p, 0, none⟩)) ∧ w'.cell? ⟨g5, 1, none⟩ = some (.int .i64 at_) ∧ w'.cell? ⟨g5, 2, none⟩ = some rv ∧ w'.cell? ⟨g5, 3, none⟩ = some kv) (by kernel_rfl) P4.out.bs.sees (fun hH => ?_)
  refine take_list (i := 0) (v := ?_) rfl (by kernel_rfl) (by kernel_rfl) (by kernel_rfl) (fun _ _ _ h => h) (Or.inl ⟨by rfl, ?_⟩) hH ?_
  rotate_left
  · ((intro w hSw; (try dsimp only at hSw); go_simp); try with_reducible rfl)
  simp only [Act.put, List.setIfInBounds_toArray, List.set_cons_zero, List.set_cons_succ]
  refine take_list (i := 1) (v := ?_) rfl (by kernel_rfl) (by kernel_rfl) (by kernel_rfl) (fun _ _ _ h => h) (Or.inl ⟨by rfl, ?_⟩) hH ?_
  rotate_left
  · ((intro w hSw; (try dsimp only at hSw); go_simp); try with_reducible rfl)
  simp only [Act.put, List.setIfInBounds_toArray, List.set_cons_zero, List.set_cons_succ]
  refine take_list (i := 2) (v := ?_) rfl (by kernel_rfl) (by kernel_rfl) (by kernel_rfl) (fun _ _ _ h => h) (Or.inl ⟨by rfl, ?_⟩) hH ?_
  rotate_left
  · ((intro w hSw; (try dsimp only at hSw); go_simp); try with_reducible rfl)
  simp only [Act.put, List.setIfInBounds_toArray, List.set_cons_zero, List.set_cons_succ]
  refine take_list (i := 3) (v := ?_) rfl (by kernel_rfl) (by kernel_rfl) (by kernel_rfl) (fun _ _ _ h => h) (Or.inl ⟨by rfl, ?_⟩) hH ?_
  rotate_left
  · ((intro w hSw; (try dsimp only at hSw); go_simp); try with_reducible rfl)
  simp only [Act.put, List.setIfInBounds_toArray, List.set_cons_zero, List.set_cons_succ]
  refine take_list (i := 4) (v := ?_) rfl (by kernel_rfl) (by kernel_rfl) (by kernel_rfl) (fun _ _ _ h => h) (Or.inl ⟨by rfl, ?_⟩) hH ?_
  rotate_left
  · ((intro w hSw; (try dsimp only at hSw); go_simp); try with_reducible rfl)
  simp only [Act.put, List.setIfInBounds_toArray, List.set_cons_zero, List.set_cons_succ]
  refine take_list (i := 5) (v := ?_) rfl (by kernel_rfl) (by kernel_rfl) (by kernel_rfl) (fun _ _ _ h => h) (Or.inl ⟨by rfl, ?_⟩) hH ?_
  rotate_left
  · ((intro w hSw; (try dsimp only at hSw); go_simp); try with_reducible rfl)
  simp only [Act.put, List.setIfInBounds_toArray, List.set_cons_zero, List.set_cons_succ]
  refine wpAnyH_ready (rs := [6]) (by kernel_rfl) (by simp) ?_
  refine ready_list rfl (fun K hK => ?_)
  go_simp
  refine (ropen_any at_ P4.out.bs.pr.ref).mono ?_
  rintro e w5 ⟨hp, o5⟩
  obtain ⟨x5, rfl, h5⟩ := hp.one
  have P5 := Lib.hid (P4.out.quiet o5)
  have O35 := Lib.hid (((Only.refl [] w3).drew).trans o5 (by simp))
  have Z5 := Lib.hid (show w0.heap.size ≤ w3.drew.heap.size from P4.out.only.size)
  rw [← HM.out.ocode] at h5 ⊢
  have hss : SS w0 w5 [] a b D (.pointer x3) (.pointer x5) := by
    rcases H3.out with ⟨n3, rfl⟩ | ⟨z3, p, v, rfl, s3, np, _⟩
    · rcases h5 with ⟨_, rfl⟩ | ⟨z5, _⟩
      · exact .inl ⟨rfl, rfl⟩
      · exact absurd z5 n3
    · rcases h5 with ⟨n5, _⟩ | ⟨_, p', v', rfl, s5, nq, _⟩
      · exact absurd z3 n5
      · have hf := ocode_fit z3
        rw [← HM.out.op (by rw [← HM.out.size]; exact hf)] at s5
        exact .inr ⟨_, p, p', v, v', rfl, rfl, ⟨s3.quiet O35.out, s5, Nat.le_trans Z3.out np, Nat.le_trans Z5.out nq, hf, rfl, by simp⟩⟩
  have HSS := Lib.hid hss
  refine hK.out _ _ P5.out.bs.sees (fun hH => ?_)
  clear hK K hp h5 o5 P4 P3 P2 H3 O35 hss Z3 Z5
  refine take_list (i := 7) (v := ?_) rfl (by kernel_rfl) (by kernel_rfl) (by kernel_rfl) (fun _ _ _ h => h) (Or.inl ⟨by rfl, ?_⟩) hH ?_
  rotate_left
  · ((intro w hSw; (try dsimp only at hSw); go_simp); try with_reducible rfl)
  simp only [Act.put, List.setIfInBounds_toArray, List.set_cons_zero, List.set_cons_succ]
  refine take_list (i := 8) (v := ?_) rfl (by kernel_rfl) (by kernel_rfl) (by kernel_rfl) (fun _ _ _ h => h) (Or.inl ⟨by rfl, ?_⟩) hH ?_
  rotate_left
  · ((intro w hSw; (try dsimp only at hSw); go_simp); try with_reducible rfl)
  simp only [Act.put, List.setIfInBounds_toArray, List.set_cons_zero, List.set_cons_succ]
  refine take_list (i := 9) (v := ?_) rfl (by kernel_rfl) (by kernel_rfl) (by kernel_rfl) (fun _ _ _ h => h) (Or.inl ⟨by rfl, ?_⟩) hH ?_
  rotate_left
  · ((intro w hSw; (try dsimp only at hSw); go_simp); try with_reducible rfl)
  simp only [Act.put, List.setIfInBounds_toArray, List.set_cons_zero, List.set_cons_succ]
  refine take_list (i := 10) (v := ?_) rfl (by kernel_rfl) (by kernel_rfl) (by kernel_rfl) (fun _ _ _ h => h) (Or.inl ⟨by rfl, ?_⟩) hH ?_
  rotate_left
  · ((intro w hSw; (try dsimp only at hSw); go_simp); try with_reducible rfl)
  simp only [Act.put, List.setIfInBounds_toArray, List.set_cons_zero, List.set_cons_succ]
  refine take_list (i := 11) (v := ?_) rfl (by kernel_rfl) (by kernel_rfl) (by kernel_rfl) (fun _ _ _ h => h) (Or.inl ⟨by rfl, ?_⟩) hH ?_
  rotate_left
  · ((intro w hSw; (try dsimp only at hSw); go_simp); try with_reducible rfl)
  simp only [Act.put, List.setIfInBounds_toArray, List.set_cons_zero, List.set_cons_succ]
  refine wpAnyH_done (by kernel_rfl) ?_ _
  clear hH
  have c2 : w5.cell? ⟨q, 2, none⟩ = some sv := P5.out.bs.cell2
  have c3 : w5.cell? ⟨q, 3, none⟩ = some tv := P5.out.bs.cell3
  have f2 : w5.frozen? ⟨q, 2, none⟩ = false := free_at 2 P5.out.bs.blk
  have f3 : w5.frozen? ⟨q, 3, none⟩ = false := free_at 3 P5.out.bs.blk
  have P6 := Lib.hid (PS.set P5.out.bs HSS.out)
  clear P5 HSS
  go_wp2_with fail
  clear c2 c3 f2 f3
  refine (num_any _ _).mono ?_
  rintro e w' ⟨rfl, rfl⟩
  go_wp2_with fail
  go_ret
  exact ⟨by simp, _, _, _, _, _, _, P6.out, HM.out⟩
end
end Go.Proofs.Ytdmkmjlkogkmgaa
/- One call by both: Format, Save. -/
namespace Go.Proofs.Ytdmkmjlkogkmgaa
open Go.RowKit Go.Maps
set_option linter.unusedSimpArgs false
set_option linter.unusedVariables false

theorem Slot.keptB {w w' : World} {p : Nat} {a : DA} {v : Value} {s : SL} {F : List Nat} {b : RA} {R : Ref} (h : Slot w p a v s) (hd : RDev w F b R) (ho : Only b.bl w w') : Slot w' p a v s := by
  refine h.kept ho (hd.off_types h.blk (by decide) (by decide) (by decide)) (fun k hk e => ?_)
  obtain ⟨c, hc⟩ := h.row.blk k e
  exact hd.off_types hc (by decide) (by decide) (by decide) hk
theorem CopyB.blk {w : World} {g : Nat} {l : Sec} (h : CopyB w g l) : ∃ cur, w.heap[g]? = some (.cells cur 5 (0, 0)) := let ⟨cur, hc, _⟩ := h; ⟨cur, hc⟩
theorem CopyB.lt {w : World} {g : Nat} {l : Sec} (h : CopyB w g l) : g < w.heap.size := let ⟨_, hc⟩ := h.blk; lt_of_heap hc

section
variable {w0 w : World} {F : List Nat} {q g : Nat} {a : DA} {b : RA} {D : Disk} {R : Ref} {sv tv : Value} {kind at_ : Int} {rv kv : Value} {cs : Array Value}

set_option maxRecDepth 100000 in
set_option maxHeartbeats 3200000 in
theorem play3_format (h : PS w0 w [] q g cs a b D R sv tv) (hm : Match D R) (l : Sec) (hv : Bytes w0 rv l) (hl : l.length ≤ 4096) :
    Calls Try.prog 11 #[.pointer (some ⟨q, 0, none⟩), .agg (op3 0 at_ rv kv)] w (PlayP w0 q a b) := by
  have HV := Lib.hid hv
  have hws : w0.heap.size ≤ w.heap.size := h.only.size
  clear hv
  have hs := h.boxed 0 at_ rv kv
  have HM := Lib.hid hm
  clear h hm
  generalize hg5 : w.heap.size = g5 at hs
  have P1 := Lib.hid hs
  have c0 := hs.bs.c_kind
  have c1 := hs.bs.c_at
  clear hs
  go_enter Try.func11, Try.ntmps11
  have k2 := P1.out.bs.c_rv
  go_wp2_with fail
  clear c0 c1 k2
  generalize w.alloc (.cells (op3 0 at_ rv kv) 40) = w1 at P1 ⊢
  refine (Copy_any rv l _ (HV.out.kept P1.out.only (clean_nil _)) (by omega)).mono ?_
  rintro e w2 ⟨gc, rfl, hc, hg, o2⟩
  have hgn : w0.heap.size ≤ gc := Nat.le_trans P1.out.only.size hg
  have P2 := Lib.hid (((P1.out.fresh (F' := [gc]) (fun k hk => .inr (by simp at hk; subst hk; exact hg))).quiet o2).quiet ((Only.refl [] w2).drew))
  have C2 := Lib.hid (hc.kept ((Only.refl [] w2).drew) (by simp))
  clear hc hg o2 P1 hg5
  go_wp2_with fail
  refine wp_region_held_drew (S := fun w' => w'.cell? ⟨q, 0, none⟩ = some (.pointer (some ⟨a.p, 0, none⟩)) ∧ w'.cell? ⟨q, 1, none⟩ = some (.pointer (some ⟨b.p, 0, none⟩)) ∧ w'.cell? ⟨g5, 1, none⟩ = some (.int .i64 at_) ∧ w'.cell? ⟨g5, 2, none⟩ = some rv ∧ w'.cell? ⟨g5, 3, none⟩ = some kv) (by kernel_rfl) P2.out.bs.sees (fun hH => ?_)
  refine take_list (i := 0) (v := ?_) rfl (by kernel_rfl) (by kernel_rfl) (by kernel_rfl) (fun _ _ _ h => h) (Or.inl ⟨by rfl, ?_⟩) hH ?_
  rotate_left
  · ((intro w hSw; (try dsimp only at hSw); go_simp); try with_reducible rfl)
  simp only [Act.put, List.setIfInBounds_toArray, List.set_cons_zero, List.set_cons_succ]
  refine take_list (i := 1) (v := ?_) rfl (by kernel_rfl) (by kernel_rfl) (by kernel_rfl) (fun _ _ _ h => h) (Or.inl ⟨by rfl, ?_⟩) hH ?_
  rotate_left
  · ((intro w hSw; (try dsimp only at hSw); go_simp); try with_reducible rfl)
  simp only [Act.put, List.setIfInBounds_toArray, List.set_cons_zero, List.set_cons_succ]
  refine take_list (i := 2) (v := ?_) rfl (by kernel_rfl) (by kernel_rfl) (by kernel_rfl) (fun _ _ _ h => h) (Or.inl ⟨by rfl, ?_⟩) hH ?_
  rotate_left
  · ((intro w hSw; (try dsimp only at hSw); go_simp); try with_reducible rfl)
  simp only [Act.put, List.setIfInBounds_toArray, List.set_cons_zero, List.set_cons_succ]
  refine take_list (i := 3) (v := ?_) rfl (by kernel_rfl) (by kernel_rfl) (by kernel_rfl) (fun _ _ _ h => h) (Or.inl ⟨by rfl, ?_⟩) hH ?_
  rotate_left
  · ((intro w hSw; (try dsimp only at hSw); go_simp); try with_reducible rfl)
  simp only [Act.put, List.setIfInBounds_toArray, List.set_cons_zero, List.set_cons_succ]
  refine take_list (i := 4) (v := ?_) rfl (by kernel_rfl) (by kernel_rfl) (by kernel_rfl) (fun _ _ _ h => h) (Or.inl ⟨by rfl, ?_⟩) hH ?_
  rotate_left
  · ((intro w hSw; (try dsimp only at hSw); go_simp); try with_reducible rfl)
  simp only [Act.put, List.setIfInBounds_toArray, List.set_cons_zero, List.set_cons_succ]
  refine take_list (i := 5) (v := ?_) rfl (by kernel_rfl) (by kernel_rfl) (by kernel_rfl) (fun _ _ _ h => h) (Or.inl ⟨by rfl, ?_⟩) hH ?_
  rotate_left
  · ((intro w hSw; (try dsimp only at hSw); go_simp); try with_reducible rfl)
  simp only [Act.put, List.setIfInBounds_toArray, List.set_cons_zero, List.set_cons_succ]
  refine take_list (i := 6) (v := ?_) rfl (by kernel_rfl) (by kernel_rfl) (by kernel_rfl) (fun _ _ _ h => h) (Or.inl ⟨by rfl, ?_⟩) hH ?_
  rotate_left
  · ((intro w hSw; (try dsimp only at hSw); go_simp); try with_reducible rfl)
  simp only [Act.put, List.setIfInBounds_toArray, List.set_cons_zero, List.set_cons_succ]
  refine wpAnyH_ready (rs := [7]) (by kernel_rfl) (by simp) ?_
  refine ready_list rfl (fun K hK => ?_)
  go_simp
  refine (Format_any at_ _ l P2.out.bs.pr.st.dev C2.out.bytes (by omega)).mono ?_
  intro e w3 hp
  have d3 := hp.dev
  have o3 := hp.only
  obtain ⟨x3, rfl, h3⟩ := hp.one
  have P3 := Lib.hid (P2.out.setA o3 d3 (fm_size _ _ _))
  have C3 := Lib.hid (C2.out.kept o3 (by
    obtain ⟨cur, hcc⟩ := C2.out.blk
    exact P2.out.bs.pr.st.dev.off_types hcc (by decide)))
  have H3 := Lib.hid h3
  have Z3 := Lib.hid P2.out.only.size
  have G3 := Lib.hid C2.out.lt
  refine hK.out _ _ P3.out.bs.sees (fun hH => ?_)
  clear hK K hp d3 o3 h3 P2 C2
  refine take_list (i := 8) (v := ?_) rfl (by kernel_rfl) (by kernel_rfl) (by kernel_rfl) (fun _ _ _ h => h) (Or.inl ⟨by rfl, ?_⟩) hH ?_
  rotate_left
  · ((intro w hSw; (try dsimp only at hSw); go_simp); try with_reducible rfl)
  simp only [Act.put, List.setIfInBounds_toArray, List.set_cons_zero, List.set_cons_succ]
  refine take_list (i := 9) (v := ?_) rfl (by kernel_rfl) (by kernel_rfl) (by kernel_rfl) (fun _ _ _ h => h) (Or.inl ⟨by rfl, ?_⟩) hH ?_
  rotate_left
  · ((intro w hSw; (try dsimp only at hSw); go_simp); try with_reducible rfl)
  simp only [Act.put, List.setIfInBounds_toArray, List.set_cons_zero, List.set_cons_succ]
  refine take_list (i := 10) (v := ?_) rfl (by kernel_rfl) (by kernel_rfl) (by kernel_rfl) (fun _ _ _ h => h) (Or.inl ⟨by rfl, ?_⟩) hH ?_
  rotate_left
  · ((intro w hSw; (try dsimp only at hSw); go_simp); try with_reducible rfl)
  simp only [Act.put, List.setIfInBounds_toArray, List.set_cons_zero, List.set_cons_succ]
  refine take_list (i := 11) (v := ?_) rfl (by kernel_rfl) (by kernel_rfl) (by kernel_rfl) (fun _ _ _ h => h) (Or.inl ⟨by rfl, ?_⟩) hH ?_
  rotate_left
  · ((intro w hSw; (try dsimp only at hSw); go_simp); try with_reducible rfl)
  simp only [Act.put, List.setIfInBounds_toArray, List.set_cons_zero, List.set_cons_succ]
  refine take_list (i := 12) (v := ?_) rfl (by kernel_rfl) (by kernel_rfl) (by kernel_rfl) (fun _ _ _ h => h) (Or.inl ⟨by rfl, ?_⟩) hH ?_
  rotate_left
  · ((intro w hSw; (try dsimp only at hSw); go_simp); try with_reducible rfl)
  simp only [Act.put, List.setIfInBounds_toArray, List.set_cons_zero, List.set_cons_succ]
  refine wpAnyH_done (by kernel_rfl) ?_ _
  clear hH
  go_wp2_with fail
  have P4 := Lib.hid (P3.out.quiet ((Only.refl [] w3).drew))
  have C4 := Lib.hid (C3.out.kept ((Only.refl [] w3).drew) (by simp))
  refine wp_region_held_drew (S := fun w' => w'.cell? ⟨q, 0, none⟩ = some (.pointer (some ⟨a.p, 0, none⟩)) ∧ w'.cell? ⟨q, 1, none⟩ = some (.pointer (some ⟨b.p, 0, none⟩)) ∧ w'.cell? ⟨g5, 1, none⟩ = some (.int .i64 at_) ∧ w'.cell? ⟨g5, 2, none⟩ = some rv ∧ w'.cell? ⟨g5, 3, none⟩ = some kv) (by kernel_rfl) P4.out.bs.sees (fun hH => ?_)
  refine take_list (i := 0) (v := ?_) rfl (by kernel_rfl) (by kernel_rfl) (by kernel_rfl) (fun _ _ _ h => h) (Or.inl ⟨by rfl, ?_⟩) hH ?_
  rotate_left
  · ((intro w hSw; (try dsimp only at hSw); go_simp); try with_reducible rfl)
  simp only [Act.put, List.setIfInBounds_toArray, List.set_cons_zero, List.set_cons_succ]
  refine take_list (i := 1) (v := ?_) rfl (by kernel_rfl) (by kernel_rfl) (by kernel_rfl) (fun _ _ _ h => h) (Or.inl ⟨by rfl, ?_⟩) hH ?_
  rotate_left
  · ((intro w hSw; (try dsimp only at hSw); go_simp); try with_reducible rfl)
  simp only [Act.put, List.setIfInBounds_toArray, List.set_cons_zero, List.set_cons_succ]
  refine take_list (i := 2) (v := ?_) rfl (by kernel_rfl) (by kernel_rfl) (by kernel_rfl) (fun _ _ _ h => h) (Or.inl ⟨by rfl, ?_⟩) hH ?_
  rotate_left
  · ((intro w hSw; (try dsimp only at hSw); go_simp); try with_reducible rfl)
  simp only [Act.put, List.setIfInBounds_toArray, List.set_cons_zero, List.set_cons_succ]
  refine take_list (i := 3) (v := ?_) rfl (by kernel_rfl) (by kernel_rfl) (by kernel_rfl) (fun _ _ _ h => h) (Or.inl ⟨by rfl, ?_⟩) hH ?_
  rotate_left
  · ((intro w hSw; (try dsimp only at hSw); go_simp); try with_reducible rfl)
  simp only [Act.put, List.setIfInBounds_toArray, List.set_cons_zero, List.set_cons_succ]
  refine take_list (i := 4) (v := ?_) rfl (by kernel_rfl) (by kernel_rfl) (by kernel_rfl) (fun _ _ _ h => h) (Or.inl ⟨by rfl, ?_⟩) hH ?_
  rotate_left
  · ((intro w hSw; (try dsimp only at hSw); go_simp); try with_reducible rfl)
  simp only [Act.put, List.setIfInBounds_toArray, List.set_cons_zero, List.set_cons_succ]
  refine take_list (i := 5) (v := ?_) rfl (by kernel_rfl) (by kernel_rfl) (by kernel_rfl) (fun _ _ _ h => h) (Or.inl ⟨by rfl, ?_⟩) hH ?_
  rotate_left
  · ((intro w hSw; (try dsimp only at hSw); go_simp); try with_reducible rfl)
  simp only [Act.put, List.setIfInBounds_toArray, List.set_cons_zero, List.set_cons_succ]
  refine take_list (i := 6) (v := ?_) rfl (by kernel_rfl) (by kernel_rfl) (by kernel_rfl) (fun _ _ _ h => h) (Or.inl ⟨by rfl, ?_⟩) hH ?_
  rotate_left
  · ((intro w hSw; (try dsimp only at hSw); go_simp); try with_reducible rfl)
  simp only [Act.put, List.setIfInBounds_toArray, List.set_cons_zero, List.set_cons_succ]
  refine take_list (i := 7) (v := ?_) rfl (by kernel_rfl) (by kernel_rfl) (by kernel_rfl) (fun _ _ _ h => h) (Or.inl ⟨by rfl, ?_⟩) hH ?_
  rotate_left
  · ((intro w hSw; (try dsimp only at hSw); go_simp); try with_reducible rfl)
  simp only [Act.put, List.setIfInBounds_toArray, List.set_cons_zero, List.set_cons_succ]
  refine wpAnyH_ready (rs := [8]) (by kernel_rfl) (by simp) ?_
  refine ready_list rfl (fun K hK => ?_)
  go_simp
  have hof := (P4.out.bs.pr.off HV.out).2
  have hFF : ∀ k ∈ [gc], k < w3.drew.heap.size := fun k hk => by
    have := C4.out.lt
    simp at hk
    omega
  refine (rformat_any at_ rv l P4.out.bs.pr.ref (HV.out.kept P4.out.only (clean_nil _)) hof (by omega) hFF).mono ?_
  intro e w5 hp
  have r5 := hp.dev
  have o5 := hp.only
  obtain ⟨x5, rfl, h5⟩ := hp.one
  have P5 := Lib.hid (P4.out.setB o5 r5)
  have C5 := Lib.hid (C4.out.kept o5 (by
    obtain ⟨cur, hcc⟩ := C4.out.blk
    exact P4.out.bs.pr.ref.off_types hcc (by decide) (by decide) (by decide)))
  have Z5 := Lib.hid (show w0.heap.size ≤ w3.drew.heap.size from P4.out.only.size)
  rw [← HM.out.fcode] at h5 ⊢
  have hss : SS w0 w5 [gc] a b (D.fm at_ l) (.pointer x3) (.pointer x5) := by
    rcases H3.out with ⟨n3, rfl⟩ | ⟨z3, p, v, rfl, s3, np, nv⟩
    · rcases h5 with ⟨_, rfl⟩ | ⟨z5, _⟩
      · exact .inl ⟨rfl, rfl⟩
      · exact absurd z5 n3
    · rcases h5 with ⟨n5, _⟩ | ⟨_, p', v', rfl, s5, nq, nv'⟩
      · exact absurd z3 n5
      · have hf := fcode_fit z3
        refine .inr ⟨_, p, p', v, v', rfl, rfl, ⟨(s3.quiet ((Only.refl [] w3).drew)).keptB P4.out.bs.pr.ref o5, s5, Nat.le_trans Z3.out np, Nat.le_trans Z5.out nq, by rw [fm_size]; exact hf, rfl, fun k hk => ⟨fun e => ?_, fun e => ?_⟩⟩⟩
        · have h1 := nv k e
          have h2 := G3.out
          simp at hk
          omega
        · have h1 := nv' k e
          have h2 := hFF k hk
          omega
  have HSS := Lib.hid hss
  refine hK.out _ _ P5.out.bs.sees (fun hH => ?_)
  clear hK K hp h5 r5 o5 P4 P3 C3 C4 H3 hss Z3 Z5 hof hFF G3
  refine take_list (i := 9) (v := ?_) rfl (by kernel_rfl) (by kernel_rfl) (by kernel_rfl) (fun _ _ _ h => h) (Or.inl ⟨by rfl, ?_⟩) hH ?_
  rotate_left
  · ((intro w hSw; (try dsimp only at hSw); go_simp); try with_reducible rfl)
  simp only [Act.put, List.setIfInBounds_toArray, List.set_cons_zero, List.set_cons_succ]
  refine take_list (i := 10) (v := ?_) rfl (by kernel_rfl) (by kernel_rfl) (by kernel_rfl) (fun _ _ _ h => h) (Or.inl ⟨by rfl, ?_⟩) hH ?_
  rotate_left
  · ((intro w hSw; (try dsimp only at hSw); go_simp); try with_reducible rfl)
  simp only [Act.put, List.setIfInBounds_toArray, List.set_cons_zero, List.set_cons_succ]
  refine take_list (i := 11) (v := ?_) rfl (by kernel_rfl) (by kernel_rfl) (by kernel_rfl) (fun _ _ _ h => h) (Or.inl ⟨by rfl, ?_⟩) hH ?_
  rotate_left
  · ((intro w hSw; (try dsimp only at hSw); go_simp); try with_reducible rfl)
  simp only [Act.put, List.setIfInBounds_toArray, List.set_cons_zero, List.set_cons_succ]
  refine take_list (i := 12) (v := ?_) rfl (by kernel_rfl) (by kernel_rfl) (by kernel_rfl) (fun _ _ _ h => h) (Or.inl ⟨by rfl, ?_⟩) hH ?_
  rotate_left
  · ((intro w hSw; (try dsimp only at hSw); go_simp); try with_reducible rfl)
  simp only [Act.put, List.setIfInBounds_toArray, List.set_cons_zero, List.set_cons_succ]
  refine take_list (i := 13) (v := ?_) rfl (by kernel_rfl) (by kernel_rfl) (by kernel_rfl) (fun _ _ _ h => h) (Or.inl ⟨by rfl, ?_⟩) hH ?_
  rotate_left
  · ((intro w hSw; (try dsimp only at hSw); go_simp); try with_reducible rfl)
  simp only [Act.put, List.setIfInBounds_toArray, List.set_cons_zero, List.set_cons_succ]
  refine wpAnyH_done (by kernel_rfl) ?_ _
  clear hH
  have c2 : w5.cell? ⟨q, 2, none⟩ = some sv := P5.out.bs.cell2
  have c3 : w5.cell? ⟨q, 3, none⟩ = some tv := P5.out.bs.cell3
  have f2 : w5.frozen? ⟨q, 2, none⟩ = false := free_at 2 P5.out.bs.blk
  have f3 : w5.frozen? ⟨q, 3, none⟩ = false := free_at 3 P5.out.bs.blk
  have P6 := Lib.hid (PS.set P5.out.bs HSS.out)
  have C6 := Lib.hid (C5.out.kept (S := [q]) (((Only.refl [q] w5).setCell (p := ⟨q, 2, none⟩) (by simp) (.pointer x3)).setCell (p := ⟨q, 3, none⟩) (by simp) (.pointer x5)) (by
    obtain ⟨cur, hcc⟩ := C5.out.blk
    have := type_ne hcc P5.out.bs.blk (by decide)
    simpa using this))
  clear P5 HSS C5
  go_wp2_with fail
  clear c2 c3 f2 f3
  have k2 := P6.out.bs.c_rv
  generalize (w5.setCell ⟨q, 2, none⟩ (.pointer x3)).setCell ⟨q, 3, none⟩ (.pointer x5) = w6 at P6 C6 k2 ⊢
  refine (num_any _ _).mono ?_
  rintro e w' ⟨rfl, rfl⟩
  go_wp2_with fail
  clear k2
  refine (Kept_any gc rv l _ C6.out (HV.out.kept P6.out.only (clean_nil _)) (by omega)).mono ?_
  rintro e w7 ⟨rfl, o7⟩
  have P7 := Lib.hid (P6.out.quiet o7)
  have C7 := Lib.hid (C6.out.kept o7 (by simp))
  clear o7 P6 C6
  go_wp2_with fail
  refine (over_any _ l.length _ (C7.out.row (by unfold maxLen; omega)) (by omega)).mono ?_
  rintro e w8 ⟨rfl, _, o8⟩
  have P8 := Lib.hid (show PS w0 w8 [] q g5 (op3 0 at_ rv kv) a b (D.fm at_ l) (R.fm at_ l) (.pointer x3) (.pointer x5) from by
    obtain ⟨cur, hcc⟩ := C7.out.blk
    exact (P7.out.over hcc (by simp) hgn o8).drop)
  clear o8 P7 C7
  go_wp2_with fail
  go_ret
  exact ⟨rfl, _, _, _, _, _, _, P8.out, HM.out.fm at_ l⟩

set_option maxRecDepth 100000 in
set_option maxHeartbeats 1600000 in
theorem play3_none (h : PS w0 w [] q g cs a b D R (.pointer none) (.pointer none)) (hm : Match D R) :
    Calls Try.prog 11 #[.pointer (some ⟨q, 0, none⟩), .agg (op3 2 at_ rv kv)] w (PlayP w0 q a b) := by
  have hs := h.boxed 2 at_ rv kv
  have HM := Lib.hid hm
  clear h hm
  generalize hg5 : w.heap.size = g5 at hs
  have P1 := Lib.hid hs
  have c0 := hs.bs.c_kind
  have c1 := hs.bs.c_at
  clear hs
  go_enter Try.func11, Try.ntmps11
  have k2 := P1.out.bs.cell2
  have k3 := P1.out.bs.cell3
  go_wp2_with fail
  go_ret
  exact ⟨rfl, _, _, _, _, _, _, P1.out, HM.out⟩
end
end Go.Proofs.Ytdmkmjlkogkmgaa
/- One call by both: Save; any call. -/
namespace Go.Proofs.Ytdmkmjlkogkmgaa
open Go.RowKit Go.Maps
set_option linter.unusedSimpArgs false
set_option linter.unusedVariables false

section
variable {w0 w : World} {F : List Nat} {q g : Nat} {a : DA} {b : RA} {D : Disk} {R : Ref} {sv tv : Value} {kind at_ : Int} {rv kv : Value} {cs : Array Value} {p p' : Nat} {v v' : Value} {s s' : SL}
theorem PT.sees (h : PT w0 w F q g (op3 kind at_ rv kv) a b D R p p' v v' s s') : w.cell? ⟨q, 2, none⟩ = some (.pointer (some ⟨p, 0, none⟩)) ∧ w.cell? ⟨q, 3, none⟩ = some (.pointer (some ⟨p', 0, none⟩)) ∧ w.cell? ⟨g, 2, none⟩ = some rv :=
  ⟨h.bs.cell2, h.bs.cell3, h.bs.c_rv⟩
theorem PT.only (h : PT w0 w F q g cs a b D R p p' v v' s s') : Only [] w0 w := h.bs.pr.st.only

set_option maxRecDepth 100000 in
set_option maxHeartbeats 3200000 in
theorem play3_save (hb0 : Base w0 w [] q g cs a b D R (.pointer (some ⟨p, 0, none⟩)) (.pointer (some ⟨p', 0, none⟩))) (ht : Two w0 w [] a b D p p' v v' s s) (hm : Match D R) (l : Sec) (hv : Bytes w0 rv l) (hl : l.length ≤ 4096) :
    Calls Try.prog 11 #[.pointer (some ⟨q, 0, none⟩), .agg (op3 2 at_ rv kv)] w (PlayP w0 q a b) := by
  have HV := Lib.hid hv
  have HM := Lib.hid hm
  have qa : Only [] w (w.alloc (.cells (op3 2 at_ rv kv) 40)) := (Only.refl [] w).alloc _
  have hb1 := hb0.quiet qa
  have hs : PT w0 (w.alloc (.cells (op3 2 at_ rv kv) 40)) [] q w.heap.size (op3 2 at_ rv kv) a b D R p p' v v' s s := ⟨⟨hb1.pr, hb1.blk, heap_new w _, hb1.newq⟩, ht.quiet qa⟩
  clear hb0 ht hm hv hb1 qa
  generalize hg5 : w.heap.size = g5 at hs
  have P1 := Lib.hid hs
  have c0 := hs.bs.c_kind
  have k2 := hs.bs.c_rv
  have k3 := hs.bs.cell3
  clear hs
  go_enter Try.func11, Try.ntmps11
  go_wp2_with fail
  clear c0 k2 k3
  generalize w.alloc (.cells (op3 2 at_ rv kv) 40) = w1 at P1 ⊢
  refine (Copy_any rv l _ (HV.out.kept P1.out.only (clean_nil _)) (by omega)).mono ?_
  rintro e w2 ⟨gc, rfl, hc, hg, o2⟩
  have hgn : w0.heap.size ≤ gc := Nat.le_trans P1.out.only.size hg
  have P2 := Lib.hid (((P1.out.fresh (F' := [gc]) (fun k hk => .inr (by simp at hk; subst hk; exact hg))).quiet o2).quiet ((Only.refl [] w2).drew))
  have C2 := Lib.hid (hc.kept ((Only.refl [] w2).drew) (by simp))
  clear hc hg o2 P1 hg5
  go_wp2_with fail
  refine wp_region_held_drew (S := fun w' => w'.cell? ⟨q, 2, none⟩ = some (.pointer (some ⟨p, 0, none⟩)) ∧ w'.cell? ⟨q, 3, none⟩ = some (.pointer (some ⟨p', 0, none⟩)) ∧ w'.cell? ⟨g5, 2, none⟩ = some rv) (by kernel_rfl) P2.out.sees (fun hH => ?_)
  refine take_list (i := 0) (v := ?_) rfl (by kernel_rfl) (by kernel_rfl) (by kernel_rfl) (fun _ _ _ h => h) (Or.inl ⟨by rfl, ?_⟩) hH ?_
  rotate_left
  · ((intro w hSw; (try dsimp only at hSw); go_simp); try with_reducible rfl)
  simp only [Act.put, List.setIfInBounds_toArray, List.set_cons_zero, List.set_cons_succ]
  refine take_list (i := 1) (v := ?_) rfl (by kernel_rfl) (by kernel_rfl) (by kernel_rfl) (fun _ _ _ h => h) (Or.inl ⟨by rfl, ?_⟩) hH ?_
  rotate_left
  · ((intro w hSw; (try dsimp only at hSw); go_simp); try with_reducible rfl)
  simp only [Act.put, List.setIfInBounds_toArray, List.set_cons_zero, List.set_cons_succ]
  refine take_list (i := 2) (v := ?_) rfl (by kernel_rfl) (by kernel_rfl) (by kernel_rfl) (fun _ _ _ h => h) (Or.inl ⟨by rfl, ?_⟩) hH ?_
  rotate_left
  · ((intro w hSw; (try dsimp only at hSw); go_simp); try with_reducible rfl)
  simp only [Act.put, List.setIfInBounds_toArray, List.set_cons_zero, List.set_cons_succ]
  refine take_list (i := 3) (v := ?_) rfl (by kernel_rfl) (by kernel_rfl) (by kernel_rfl) (fun _ _ _ h => h) (Or.inl ⟨by rfl, ?_⟩) hH ?_
  rotate_left
  · ((intro w hSw; (try dsimp only at hSw); go_simp); try with_reducible rfl)
  simp only [Act.put, List.setIfInBounds_toArray, List.set_cons_zero, List.set_cons_succ]
  refine take_list (i := 4) (v := ?_) rfl (by kernel_rfl) (by kernel_rfl) (by kernel_rfl) (fun _ _ _ h => h) (Or.inl ⟨by rfl, ?_⟩) hH ?_
  rotate_left
  · ((intro w hSw; (try dsimp only at hSw); go_simp); try with_reducible rfl)
  simp only [Act.put, List.setIfInBounds_toArray, List.set_cons_zero, List.set_cons_succ]
  refine take_list (i := 7) (v := ?_) rfl (by kernel_rfl) (by kernel_rfl) (by kernel_rfl) (fun _ _ _ h => h) (Or.inl ⟨by rfl, ?_⟩) hH ?_
  rotate_left
  · ((intro w hSw; (try dsimp only at hSw); go_simp); try with_reducible rfl)
  simp only [Act.put, List.setIfInBounds_toArray, List.set_cons_zero, List.set_cons_succ]
  refine take_list (i := 8) (v := ?_) rfl (by kernel_rfl) (by kernel_rfl) (by kernel_rfl) (fun _ _ _ h => h) (Or.inl ⟨by rfl, ?_⟩) hH ?_
  rotate_left
  · ((intro w hSw; (try dsimp only at hSw); go_simp); try with_reducible rfl)
  simp only [Act.put, List.setIfInBounds_toArray, List.set_cons_zero, List.set_cons_succ]
  refine take_list (i := 9) (v := ?_) rfl (by kernel_rfl) (by kernel_rfl) (by kernel_rfl) (fun _ _ _ h => h) (Or.inl ⟨by rfl, ?_⟩) hH ?_
  rotate_left
  · ((intro w hSw; (try dsimp only at hSw); go_simp); try with_reducible rfl)
  simp only [Act.put, List.setIfInBounds_toArray, List.set_cons_zero, List.set_cons_succ]
  refine take_list (i := 10) (v := ?_) rfl (by kernel_rfl) (by kernel_rfl) (by kernel_rfl) (fun _ _ _ h => h) (Or.inl ⟨by rfl, ?_⟩) hH ?_
  rotate_left
  · ((intro w hSw; (try dsimp only at hSw); go_simp); try with_reducible rfl)
  simp only [Act.put, List.setIfInBounds_toArray, List.set_cons_zero, List.set_cons_succ]
  refine take_list (i := 11) (v := ?_) rfl (by kernel_rfl) (by kernel_rfl) (by kernel_rfl) (fun _ _ _ h => h) (Or.inl ⟨by rfl, ?_⟩) hH ?_
  rotate_left
  · ((intro w hSw; (try dsimp only at hSw); go_simp); try with_reducible rfl)
  simp only [Act.put, List.setIfInBounds_toArray, List.set_cons_zero, List.set_cons_succ]
  refine take_list (i := 12) (v := ?_) rfl (by kernel_rfl) (by kernel_rfl) (by kernel_rfl) (fun _ _ _ h => h) (Or.inl ⟨by rfl, ?_⟩) hH ?_
  rotate_left
  · ((intro w hSw; (try dsimp only at hSw); go_simp); try with_reducible rfl)
  simp only [Act.put, List.setIfInBounds_toArray, List.set_cons_zero, List.set_cons_succ]
  refine wpAnyH_ready (rs := [5]) (by kernel_rfl) (by simp) ?_
  refine ready_list rfl (fun K hK => ?_)
  go_simp
  have hF2 : ∀ k ∈ [gc], k < w2.drew.heap.size := fun k hk => by
    have := C2.out.lt
    simp at hk
    omega
  refine (save_any _ l P2.out.two.sl P2.out.bs.pr.st.dev C2.out.bytes P2.out.two.fit (by omega)).mono ?_
  rintro e w3 ⟨rfl, d3, o3, v3, s3, n3⟩
  have P3 := Lib.hid (P2.out.saveA hF2 o3 d3 s3 n3)
  have C3 := Lib.hid (C2.out.kept o3 (by
    obtain ⟨cur, hcc⟩ := C2.out.blk
    intro hmm
    simp only [SA, List.mem_cons] at hmm
    rcases hmm with rfl | hmm
    · exact type_ne hcc P2.out.two.sl.blk (by decide) rfl
    · exact P2.out.bs.pr.st.dev.off_types hcc (by decide) hmm))
  refine hK.out _ _ P3.out.sees (fun hH => ?_)
  clear hK K d3 o3 s3 n3 P2 C2 hF2
  refine wpAnyH_ready (rs := [6]) (by kernel_rfl) (by simp) ?_
  refine ready_list rfl (fun K hK => ?_)
  go_simp
  refine (num_any _ _).mono ?_
  rintro e w' ⟨rfl, rfl⟩
  refine hK.out _ _ hH (fun hH => ?_)
  clear hK K
  refine wpAnyH_ready (rs := [13]) (by kernel_rfl) (by simp) ?_
  refine ready_list rfl (fun K hK => ?_)
  go_simp
  have hF3 : ∀ k ∈ [gc], k < w3.heap.size := fun k hk => by
    have := C3.out.lt
    simp at hk
    omega
  have hfit : fitB s.at_ R.n = true := by
    have h1 := P3.out.two.fit
    rw [save_at, sdisk_size, HM.out.size] at h1
    exact h1
  refine (rsave_any rv l P3.out.two.rs P3.out.bs.pr.ref (HV.out.kept P3.out.only (clean_nil _)) (P3.out.bs.pr.off HV.out).2 hfit (by omega) hF3).mono ?_
  rintro e w5 ⟨rfl, r5, o5, v5, s5, n5⟩
  have P5 := Lib.hid (P3.out.saveB hF3 o5 r5 s5 n5)
  have C5 := Lib.hid (C3.out.kept o5 (by
    obtain ⟨cur, hcc⟩ := C3.out.blk
    intro hmm
    simp only [RSA, List.mem_cons] at hmm
    rcases hmm with rfl | hmm
    · exact type_ne hcc P3.out.two.rs.blk (by decide) rfl
    · exact P3.out.bs.pr.ref.off_types hcc (by decide) (by decide) (by decide) hmm))
  rw [← HM.out.rcode' s l]
  refine hK.out _ _ P5.out.sees (fun hH => ?_)
  clear hK K r5 o5 s5 n5 P3 C3 hF3 hfit
  refine take_list (i := 14) (v := ?_) rfl (by kernel_rfl) (by kernel_rfl) (by kernel_rfl) (fun _ _ _ h => h) (Or.inl ⟨by rfl, ?_⟩) hH ?_
  rotate_left
  · ((intro w hSw; (try dsimp only at hSw); go_simp); try with_reducible rfl)
  simp only [Act.put, List.setIfInBounds_toArray, List.set_cons_zero, List.set_cons_succ]
  refine take_list (i := 15) (v := ?_) rfl (by kernel_rfl) (by kernel_rfl) (by kernel_rfl) (fun _ _ _ h => h) (Or.inl ⟨by rfl, ?_⟩) hH ?_
  rotate_left
  · ((intro w hSw; (try dsimp only at hSw); go_simp); try with_reducible rfl)
  simp only [Act.put, List.setIfInBounds_toArray, List.set_cons_zero, List.set_cons_succ]
  refine take_list (i := 16) (v := ?_) rfl (by kernel_rfl) (by kernel_rfl) (by kernel_rfl) (fun _ _ _ h => h) (Or.inl ⟨by rfl, ?_⟩) hH ?_
  rotate_left
  · ((intro w hSw; (try dsimp only at hSw); go_simp); try with_reducible rfl)
  simp only [Act.put, List.setIfInBounds_toArray, List.set_cons_zero, List.set_cons_succ]
  refine take_list (i := 17) (v := ?_) rfl (by kernel_rfl) (by kernel_rfl) (by kernel_rfl) (fun _ _ _ h => h) (Or.inl ⟨by rfl, ?_⟩) hH ?_
  rotate_left
  · ((intro w hSw; (try dsimp only at hSw); go_simp); try with_reducible rfl)
  simp only [Act.put, List.setIfInBounds_toArray, List.set_cons_zero, List.set_cons_succ]
  refine take_list (i := 18) (v := ?_) rfl (by kernel_rfl) (by kernel_rfl) (by kernel_rfl) (fun _ _ _ h => h) (Or.inl ⟨by rfl, ?_⟩) hH ?_
  rotate_left
  · ((intro w hSw; (try dsimp only at hSw); go_simp); try with_reducible rfl)
  simp only [Act.put, List.setIfInBounds_toArray, List.set_cons_zero, List.set_cons_succ]
  refine wpAnyH_ready (rs := [19]) (by kernel_rfl) (by simp) ?_
  refine ready_list rfl (fun K hK => ?_)
  go_simp
  refine (Kept_any gc rv l _ C5.out (HV.out.kept P5.out.only (clean_nil _)) (by omega)).mono ?_
  rintro e w7 ⟨rfl, o7⟩
  have P7 := Lib.hid (P5.out.quiet o7)
  have C7 := Lib.hid (C5.out.kept o7 (by simp))
  refine hK.out _ _ P7.out.sees (fun hH => ?_)
  clear hK K o7 P5 C5
  refine take_list (i := 20) (v := ?_) rfl (by kernel_rfl) (by kernel_rfl) (by kernel_rfl) (fun _ _ _ h => h) (Or.inl ⟨by rfl, ?_⟩) hH ?_
  rotate_left
  · ((intro w hSw; (try dsimp only at hSw); go_simp); try with_reducible rfl)
  simp only [Act.put, List.setIfInBounds_toArray, List.set_cons_zero, List.set_cons_succ]
  refine take_list (i := 21) (v := ?_) rfl (by kernel_rfl) (by kernel_rfl) (by kernel_rfl) (fun _ _ _ h => h) (Or.inl ⟨by rfl, ?_⟩) hH ?_
  rotate_left
  · ((intro w hSw; (try dsimp only at hSw); go_simp); try with_reducible rfl)
  simp only [Act.put, List.setIfInBounds_toArray, List.set_cons_zero, List.set_cons_succ]
  refine wpAnyH_done (by kernel_rfl) ?_ _
  clear hH
  go_wp2_with fail
  refine (over_any _ l.length _ (C7.out.row (by unfold maxLen; omega)) (by omega)).mono ?_
  rintro e w8 ⟨rfl, _, o8⟩
  have p8 : PT w0 w8 [gc] q g5 (op3 2 at_ rv kv) a b (s.sdisk D l) (s.rdisk R l) p p' v3 v5 (s.save D l) (s.rsave R l) := by
    obtain ⟨cur, hcc⟩ := C7.out.blk
    exact P7.out.over hcc (by simp) hgn o8
  rw [← HM.out.rsave s l] at p8
  have P8 := Lib.hid p8.done.drop
  clear o8 P7 C7 p8
  go_wp2_with fail
  go_ret
  exact ⟨rfl, _, _, _, _, _, _, P8.out, HM.out.rdisk s l⟩

theorem play3_all (h : PS w0 w [] q g cs a b D R sv tv) (hm : Match D R) (l : Sec) (hv : Bytes w0 rv l) (hl : l.length ≤ 4096) (ks : List Int) (hk : IntsV w0 kv ks) (hkl : ks.length ≤ maxLen) (hn : at_ ≤ 9223372036854775807) :
    Calls Try.prog 11 #[.pointer (some ⟨q, 0, none⟩), .agg (op3 kind at_ rv kv)] w (PlayP w0 q a b) := by
  by_cases h0 : kind = 0
  · subst h0
    exact play3_format h hm l hv hl
  by_cases h1 : kind = 1
  · subst h1
    exact play3_open h hm
  by_cases h2 : kind = 2
  · subst h2
    rcases h.ss with ⟨rfl, rfl⟩ | ⟨s, p, p', v, v', rfl, rfl, ht⟩
    · exact play3_none h hm
    · exact play3_save h.bs ht hm l hv hl
  by_cases h3 : kind = 3
  · subst h3
    exact play3_arm h hm hn
  by_cases h4 : kind = 4
  · subst h4
    exact play3_crash h hm ks hk hkl
  exact play3_write h hm l hv h0 h1 h2 h3 h4
end
end Go.Proofs.Ytdmkmjlkogkmgaa
/- Both show the same. -/
namespace Go.Proofs.Ytdmkmjlkogkmgaa
open Go.RowKit Go.Maps
set_option linter.unusedSimpArgs false
set_option linter.unusedVariables false

section
variable {w0 w : World} {F : List Nat} {q g : Nat} {a : DA} {b : RA} {D : Disk} {R : Ref} {sv tv : Value} {cs : Array Value}


set_option maxRecDepth 100000 in
set_option maxHeartbeats 3200000 in
theorem same3_none (h : PS w0 w [] q g cs a b D R (.pointer none) (.pointer none)) (hm : Match D R) :
    Calls Try.prog 12 #[.pointer (some ⟨q, 0, none⟩)] w (PlayP w0 q a b) := by
  have HM := Lib.hid hm
  have P1 := Lib.hid h
  obtain ⟨sv0, hsv⟩ : ∃ x, x = Value.pointer none := ⟨_, rfl⟩
  obtain ⟨tv0, htv⟩ : ∃ x, x = Value.pointer none := ⟨_, rfl⟩
  have HSV := Lib.hid hsv
  have HTV := Lib.hid htv
  clear h hm hsv htv
  go_enter Try.func12, Try.ntmps12
  go_wp2_with fail
  have P2 := Lib.hid (P1.out.quiet ((Only.refl [] w).drew))
  have s2 : w.drew.cell? ⟨q, 2, none⟩ = some (.pointer none) := P2.out.bs.cell2
  have s3 : w.drew.cell? ⟨q, 3, none⟩ = some (.pointer none) := P2.out.bs.cell3
  refine wp_region_held_drew (S := fun w' => w'.cell? ⟨q, 2, none⟩ = some (.pointer none) ∧ w'.cell? ⟨q, 3, none⟩ = some (.pointer none)) (by kernel_rfl) ⟨s2, s3⟩ (fun hH => ?_)
  refine take_list (i := 0) (v := ?_) rfl (by kernel_rfl) (by kernel_rfl) (by kernel_rfl) (fun _ _ _ h => h) (Or.inl ⟨by rfl, ?_⟩) hH ?_
  rotate_left
  · ((intro w hSw; (try dsimp only at hSw); go_simp); try with_reducible rfl)
  simp only [Act.put, List.setIfInBounds_toArray, List.set_cons_zero, List.set_cons_succ]
  refine take_list (i := 1) (v := ?_) rfl (by kernel_rfl) (by kernel_rfl) (by kernel_rfl) (fun _ _ _ h => h) (Or.inl ⟨by rfl, ?_⟩) hH ?_
  rotate_left
  · ((intro w hSw; (try dsimp only at hSw); go_simp); try with_reducible rfl)
  simp only [Act.put, List.setIfInBounds_toArray, List.set_cons_zero, List.set_cons_succ]
  refine take_list (i := 2) (v := ?_) rfl (by kernel_rfl) (by kernel_rfl) (by kernel_rfl) (fun _ _ _ h => h) (Or.inl ⟨by rfl, ?_⟩) hH ?_
  rotate_left
  · ((intro w hSw; (try dsimp only at hSw); go_simp); try with_reducible rfl)
  simp only [Act.put, List.setIfInBounds_toArray, List.set_cons_zero, List.set_cons_succ]
  refine take_list (i := 3) (v := ?_) rfl (by kernel_rfl) (by kernel_rfl) (by kernel_rfl) (fun _ _ _ h => h) (Or.inl ⟨by rfl, ?_⟩) hH ?_
  rotate_left
  · ((intro w hSw; (try dsimp only at hSw); go_simp); try with_reducible rfl)
  simp only [Act.put, List.setIfInBounds_toArray, List.set_cons_zero, List.set_cons_succ]
  refine take_list (i := 4) (v := ?_) rfl (by kernel_rfl) (by kernel_rfl) (by kernel_rfl) (fun _ _ _ h => h) (Or.inl ⟨by rfl, ?_⟩) hH ?_
  rotate_left
  · ((intro w hSw; (try dsimp only at hSw); go_simp); try with_reducible rfl)
  simp only [Act.put, List.setIfInBounds_toArray, List.set_cons_zero, List.set_cons_succ]
  refine take_list (i := 5) (v := ?_) rfl (by kernel_rfl) (by kernel_rfl) (by kernel_rfl) (fun _ _ _ h => h) (Or.inl ⟨by rfl, ?_⟩) hH ?_
  rotate_left
  · ((intro w hSw; (try dsimp only at hSw); go_simp); try with_reducible rfl)
  simp only [Act.put, List.setIfInBounds_toArray, List.set_cons_zero, List.set_cons_succ]
  refine take_list (i := 6) (v := ?_) rfl (by kernel_rfl) (by kernel_rfl) (by kernel_rfl) (fun _ _ _ h => h) (Or.inl ⟨by rfl, ?_⟩) hH ?_
  rotate_left
  · ((intro w hSw; (try dsimp only at hSw); go_simp); try with_reducible rfl)
  simp only [Act.put, List.setIfInBounds_toArray, List.set_cons_zero, List.set_cons_succ]
  refine take_list (i := 7) (v := ?_) rfl (by kernel_rfl) (by kernel_rfl) (by kernel_rfl) (fun _ _ _ h => h) (Or.inl ⟨by rfl, ?_⟩) hH ?_
  rotate_left
  · ((intro w hSw; (try dsimp only at hSw); go_simp); try with_reducible rfl)
  simp only [Act.put, List.setIfInBounds_toArray, List.set_cons_zero, List.set_cons_succ]
  refine take_list (i := 8) (v := ?_) rfl (by kernel_rfl) (by kernel_rfl) (by kernel_rfl) (fun _ _ _ h => h) (Or.inl ⟨by rfl, ?_⟩) hH ?_
  rotate_left
  · ((intro w hSw; (try dsimp only at hSw); go_simp); try with_reducible rfl)
  simp only [Act.put, List.setIfInBounds_toArray, List.set_cons_zero, List.set_cons_succ]
  refine take_list (i := 9) (v := ?_) rfl (by kernel_rfl) (by kernel_rfl) (by kernel_rfl) (fun _ _ _ h => h) (Or.inl ⟨by rfl, ?_⟩) hH ?_
  rotate_left
  · ((intro w hSw; (try dsimp only at hSw); go_simp); try with_reducible rfl)
  simp only [Act.put, List.setIfInBounds_toArray, List.set_cons_zero, List.set_cons_succ]
  refine take_list (i := 10) (v := ?_) rfl (by kernel_rfl) (by kernel_rfl) (by kernel_rfl) (fun _ _ _ h => h) (Or.inl ⟨by rfl, ?_⟩) hH ?_
  rotate_left
  · ((intro w hSw; (try dsimp only at hSw); go_simp); try with_reducible rfl)
  simp only [Act.put, List.setIfInBounds_toArray, List.set_cons_zero, List.set_cons_succ]
  refine wpAnyH_done (by kernel_rfl) ?_ _
  clear hH s2
  generalize w.drew = w5 at P2 s3 ⊢
  have P5 := Lib.hid (show PS w0 w5 [] q g cs a b D R sv0 tv0 from by rw [HSV.out, HTV.out]; exact P2.out)
  clear P1 P2
  have k0 : w5.cell? ⟨q, 0, none⟩ = some (.pointer (some ⟨a.p, 0, none⟩)) := P5.out.bs.cell0
  have k1 : w5.cell? ⟨q, 1, none⟩ = some (.pointer (some ⟨b.p, 0, none⟩)) := P5.out.bs.cell1
  have k7 : w5.cell? ⟨b.p, 7, none⟩ = some (.bool R.down) := P5.out.bs.pr.ref.c7
  cases hd : R.down
  rotate_left
  · rw [hd] at k7
    have HD := Lib.hid hd
    clear hd
    go_wp2_with fail
    have P6 := Lib.hid (P5.out.quiet ((Only.refl [] w5).drew))
    have s7 : w5.drew.cell? ⟨b.p, 7, none⟩ = some (.bool true) := k7
    have s0 : w5.drew.cell? ⟨q, 0, none⟩ = some (.pointer (some ⟨a.p, 0, none⟩)) := k0
    have s1 : w5.drew.cell? ⟨q, 1, none⟩ = some (.pointer (some ⟨b.p, 0, none⟩)) := k1
    refine wp_region_held_drew (S := fun w' => w'.cell? ⟨q, 0, none⟩ = some (.pointer (some ⟨a.p, 0, none⟩)) ∧ w'.cell? ⟨q, 1, none⟩ = some (.pointer (some ⟨b.p, 0, none⟩)) ∧ w'.cell? ⟨b.p, 7, none⟩ = some (.bool true)) (by kernel_rfl) ⟨s0, s1, s7⟩ (fun hH => ?_)
    refine take_list (i := 0) (v := ?_) rfl (by kernel_rfl) (by kernel_rfl) (by kernel_rfl) (fun _ _ _ h => h) (Or.inl ⟨by rfl, ?_⟩) hH ?_
    rotate_left
    · ((intro w hSw; (try dsimp only at hSw); go_simp); try with_reducible rfl)
    simp only [Act.put, List.setIfInBounds_toArray, List.set_cons_zero, List.set_cons_succ]
    refine take_list (i := 1) (v := ?_) rfl (by kernel_rfl) (by kernel_rfl) (by kernel_rfl) (fun _ _ _ h => h) (Or.inl ⟨by rfl, ?_⟩) hH ?_
    rotate_left
    · ((intro w hSw; (try dsimp only at hSw); go_simp); try with_reducible rfl)
    simp only [Act.put, List.setIfInBounds_toArray, List.set_cons_zero, List.set_cons_succ]
    refine take_list (i := 2) (v := ?_) rfl (by kernel_rfl) (by kernel_rfl) (by kernel_rfl) (fun _ _ _ h => h) (Or.inl ⟨by rfl, ?_⟩) hH ?_
    rotate_left
    · ((intro w hSw; (try dsimp only at hSw); go_simp); try with_reducible rfl)
    simp only [Act.put, List.setIfInBounds_toArray, List.set_cons_zero, List.set_cons_succ]
    refine take_list (i := 3) (v := ?_) rfl (by kernel_rfl) (by kernel_rfl) (by kernel_rfl) (fun _ _ _ h => h) (Or.inl ⟨by rfl, ?_⟩) hH ?_
    rotate_left
    · ((intro w hSw; (try dsimp only at hSw); go_simp); try with_reducible rfl)
    simp only [Act.put, List.setIfInBounds_toArray, List.set_cons_zero, List.set_cons_succ]
    refine take_list (i := 4) (v := ?_) rfl (by kernel_rfl) (by kernel_rfl) (by kernel_rfl) (fun _ _ _ h => h) (Or.inl ⟨by rfl, ?_⟩) hH ?_
    rotate_left
    · ((intro w hSw; (try dsimp only at hSw); go_simp); try with_reducible rfl)
    simp only [Act.put, List.setIfInBounds_toArray, List.set_cons_zero, List.set_cons_succ]
    refine take_list (i := 5) (v := ?_) rfl (by kernel_rfl) (by kernel_rfl) (by kernel_rfl) (fun _ _ _ h => h) (Or.inl ⟨by rfl, ?_⟩) hH ?_
    rotate_left
    · ((intro w hSw; (try dsimp only at hSw); go_simp); try with_reducible rfl)
    simp only [Act.put, List.setIfInBounds_toArray, List.set_cons_zero, List.set_cons_succ]
    refine take_list (i := 6) (v := ?_) rfl (by kernel_rfl) (by kernel_rfl) (by kernel_rfl) (fun _ _ _ h => h) (Or.inl ⟨by rfl, ?_⟩) hH ?_
    rotate_left
    · ((intro w hSw; (try dsimp only at hSw); go_simp); try with_reducible rfl)
    simp only [Act.put, List.setIfInBounds_toArray, List.set_cons_zero, List.set_cons_succ]
    refine take_list (i := 7) (v := ?_) rfl (by kernel_rfl) (by kernel_rfl) (by kernel_rfl) (fun _ _ _ h => h) (Or.inl ⟨by rfl, ?_⟩) hH ?_
    rotate_left
    · ((intro w hSw; (try dsimp only at hSw); go_simp); try with_reducible rfl)
    simp only [Act.put, List.setIfInBounds_toArray, List.set_cons_zero, List.set_cons_succ]
    refine take_list (i := 8) (v := ?_) rfl (by kernel_rfl) (by kernel_rfl) (by kernel_rfl) (fun _ _ _ h => h) (Or.inl ⟨by rfl, ?_⟩) hH ?_
    rotate_left
    · ((intro w hSw; (try dsimp only at hSw); go_simp); try with_reducible rfl)
    simp only [Act.put, List.setIfInBounds_toArray, List.set_cons_zero, List.set_cons_succ]
    refine take_list (i := 9) (v := ?_) rfl (by kernel_rfl) (by kernel_rfl) (by kernel_rfl) (fun _ _ _ h => h) (Or.inl ⟨by rfl, ?_⟩) hH ?_
    rotate_left
    · ((intro w hSw; (try dsimp only at hSw); go_simp); try with_reducible rfl)
    simp only [Act.put, List.setIfInBounds_toArray, List.set_cons_zero, List.set_cons_succ]
    refine take_list (i := 10) (v := ?_) rfl (by kernel_rfl) (by kernel_rfl) (by kernel_rfl) (fun _ _ _ h => h) (Or.inl ⟨by rfl, ?_⟩) hH ?_
    rotate_left
    · ((intro w hSw; (try dsimp only at hSw); go_simp); try with_reducible rfl)
    simp only [Act.put, List.setIfInBounds_toArray, List.set_cons_zero, List.set_cons_succ]
    refine wpAnyH_ready (rs := [11]) (by kernel_rfl) (by simp) ?_
    refine ready_list rfl (fun K hK => ?_)
    go_simp
    refine (down_st P6.out.bs.pr.st true (by rw [HM.out.down]; exact HD.out)).mono ?_
    rintro e w' ⟨rfl, rfl⟩
    refine hK.out _ _ hH (fun hH => ?_)
    clear hK K
    refine take_list (i := 12) (v := ?_) rfl (by kernel_rfl) (by kernel_rfl) (by kernel_rfl) (fun _ _ _ h => h) (Or.inl ⟨by rfl, ?_⟩) hH ?_
    rotate_left
    · ((intro w hSw; (try dsimp only at hSw); go_simp); try with_reducible rfl)
    simp only [Act.put, List.setIfInBounds_toArray, List.set_cons_zero, List.set_cons_succ]
    refine take_list (i := 13) (v := ?_) rfl (by kernel_rfl) (by kernel_rfl) (by kernel_rfl) (fun _ _ _ h => h) (Or.inl ⟨by rfl, ?_⟩) hH ?_
    rotate_left
    · ((intro w hSw; (try dsimp only at hSw); go_simp); try with_reducible rfl)
    simp only [Act.put, List.setIfInBounds_toArray, List.set_cons_zero, List.set_cons_succ]
    refine wpAnyH_done (by kernel_rfl) ?_ _
    clear hH
    go_wp2_with fail
    go_ret
    exact ⟨rfl, _, _, _, _, _, _, P6.out, HM.out⟩
  rw [hd] at k7
  have HD := Lib.hid hd
  have k5 : w5.cell? ⟨b.p, 0, none⟩ = some (.slice (some ⟨b.gN, 0, none⟩) R.n b.cN) := P5.out.bs.pr.ref.c0
  clear hd
  go_wp2_with fail
  refine (down_st P5.out.bs.pr.st false (by rw [HM.out.down]; exact HD.out)).mono ?_
  rintro e w' ⟨rfl, rfl⟩
  have hn4 := P5.out.bs.pr.ref.hi
  go_wp2_with fail
  clear k0 k1 k7 k5
  go_loopw [4, 5, 6, 7, 92] (fun _ _ _ _ i wr => ∃ k : Nat, k ≤ R.n ∧ i = .int .i64 k ∧ PS w0 wr [] q g cs a b D R sv0 tv0) (fun _ _ _ _ i _ => R.n - (intOf i).toNat)
  case atStart => exact ⟨0, by omega, rfl, P5.out⟩
  case round =>
    clear P5
    obtain ⟨k, hk, rfl, p6⟩ := hrel
    have P6 := Lib.hid p6
    have k0 : wr.cell? ⟨q, 0, none⟩ = some (.pointer (some ⟨a.p, 0, none⟩)) := p6.bs.cell0
    clear p6
    have i0 : (0 : Int) ≤ (k : Int) := by omega
    by_cases hlt : k < R.n
    · have i1 : (k : Int) < (R.n : Int) := by omega
      obtain ⟨v7, hv7, hr7⟩ := P6.out.bs.pr.ref.row hlt
      have HR7 := Lib.hid hr7
      obtain ⟨gr, capr, rfl⟩ := hr7.shape
      clear hr7
      go_wp2_with fail
      refine (read_st (k : Int) P6.out.bs.pr.st (by rw [HM.out.size]; exact inB_iff.2 ⟨i0, i1⟩) (by rw [HM.out.down]; exact HD.out) (R.now k) (HM.out.now k hlt)).mono ?_
      rintro e w7 ⟨g7, rfl, b7, _, _, o7⟩
      have P7 := Lib.hid (P6.out.quiet o7)
      obtain ⟨S, hS⟩ : ∃ S, S = strOf (R.now k) := ⟨_, rfl⟩
      have s1 := str_bytes (HR7.out.kept o7 (foreign_nil _ _)).bytes hS
      have s2 := str_of b7 HR7.out.len hS
      clear k0 hv7 b7 o7 P6 HR7 hS
      go_wp2_with fail
      go_roundw
      case rel => exact ⟨k + 1, by omega, by go_num, P7.out⟩
      case measure => simp [intOf]; omega
    · obtain rfl : k = R.n := by omega
      go_wp2_with fail
      go_ret
      exact ⟨rfl, _, _, _, _, _, _, P6.out, HM.out⟩

set_option maxRecDepth 100000 in
set_option maxHeartbeats 3200000 in
theorem same3_some {s : SL} {p p' : Nat} {v v' : Value} (hb : Base w0 w [] q g cs a b D R (.pointer (some ⟨p, 0, none⟩)) (.pointer (some ⟨p', 0, none⟩))) (ht : Two w0 w [] a b D p p' v v' s s) (hm : Match D R) :
    Calls Try.prog 12 #[.pointer (some ⟨q, 0, none⟩)] w (PlayP w0 q a b) := by
  have HM := Lib.hid hm
  have P1 := Lib.hid (show PT w0 w [] q g cs a b D R p p' v v' s s from ⟨hb, ht⟩)
  obtain ⟨sv0, hsv⟩ : ∃ x, x = Value.pointer (some ⟨p, 0, none⟩) := ⟨_, rfl⟩
  obtain ⟨tv0, htv⟩ : ∃ x, x = Value.pointer (some ⟨p', 0, none⟩) := ⟨_, rfl⟩
  have HSV := Lib.hid hsv
  have HTV := Lib.hid htv
  clear hb ht hm hsv htv
  go_enter Try.func12, Try.ntmps12
  go_wp2_with fail
  have P2 := Lib.hid (P1.out.quiet ((Only.refl [] w).drew))
  have s2 : w.drew.cell? ⟨q, 2, none⟩ = some (.pointer (some ⟨p, 0, none⟩)) := P2.out.bs.cell2
  have s3 : w.drew.cell? ⟨q, 3, none⟩ = some (.pointer (some ⟨p', 0, none⟩)) := P2.out.bs.cell3
  refine wp_region_held_drew (S := fun w' => w'.cell? ⟨q, 2, none⟩ = some (.pointer (some ⟨p, 0, none⟩)) ∧ w'.cell? ⟨q, 3, none⟩ = some (.pointer (some ⟨p', 0, none⟩))) (by kernel_rfl) ⟨s2, s3⟩ (fun hH => ?_)
  refine take_list (i := 0) (v := ?_) rfl (by kernel_rfl) (by kernel_rfl) (by kernel_rfl) (fun _ _ _ h => h) (Or.inl ⟨by rfl, ?_⟩) hH ?_
  rotate_left
  · ((intro w hSw; (try dsimp only at hSw); go_simp); try with_reducible rfl)
  simp only [Act.put, List.setIfInBounds_toArray, List.set_cons_zero, List.set_cons_succ]
  refine take_list (i := 1) (v := ?_) rfl (by kernel_rfl) (by kernel_rfl) (by kernel_rfl) (fun _ _ _ h => h) (Or.inl ⟨by rfl, ?_⟩) hH ?_
  rotate_left
  · ((intro w hSw; (try dsimp only at hSw); go_simp); try with_reducible rfl)
  simp only [Act.put, List.setIfInBounds_toArray, List.set_cons_zero, List.set_cons_succ]
  refine take_list (i := 2) (v := ?_) rfl (by kernel_rfl) (by kernel_rfl) (by kernel_rfl) (fun _ _ _ h => h) (Or.inl ⟨by rfl, ?_⟩) hH ?_
  rotate_left
  · ((intro w hSw; (try dsimp only at hSw); go_simp); try with_reducible rfl)
  simp only [Act.put, List.setIfInBounds_toArray, List.set_cons_zero, List.set_cons_succ]
  refine take_list (i := 3) (v := ?_) rfl (by kernel_rfl) (by kernel_rfl) (by kernel_rfl) (fun _ _ _ h => h) (Or.inl ⟨by rfl, ?_⟩) hH ?_
  rotate_left
  · ((intro w hSw; (try dsimp only at hSw); go_simp); try with_reducible rfl)
  simp only [Act.put, List.setIfInBounds_toArray, List.set_cons_zero, List.set_cons_succ]
  refine take_list (i := 4) (v := ?_) rfl (by kernel_rfl) (by kernel_rfl) (by kernel_rfl) (fun _ _ _ h => h) (Or.inl ⟨by rfl, ?_⟩) hH ?_
  rotate_left
  · ((intro w hSw; (try dsimp only at hSw); go_simp); try with_reducible rfl)
  simp only [Act.put, List.setIfInBounds_toArray, List.set_cons_zero, List.set_cons_succ]
  refine take_list (i := 5) (v := ?_) rfl (by kernel_rfl) (by kernel_rfl) (by kernel_rfl) (fun _ _ _ h => h) (Or.inl ⟨by rfl, ?_⟩) hH ?_
  rotate_left
  · ((intro w hSw; (try dsimp only at hSw); go_simp); try with_reducible rfl)
  simp only [Act.put, List.setIfInBounds_toArray, List.set_cons_zero, List.set_cons_succ]
  refine take_list (i := 6) (v := ?_) rfl (by kernel_rfl) (by kernel_rfl) (by kernel_rfl) (fun _ _ _ h => h) (Or.inl ⟨by rfl, ?_⟩) hH ?_
  rotate_left
  · ((intro w hSw; (try dsimp only at hSw); go_simp); try with_reducible rfl)
  simp only [Act.put, List.setIfInBounds_toArray, List.set_cons_zero, List.set_cons_succ]
  refine take_list (i := 7) (v := ?_) rfl (by kernel_rfl) (by kernel_rfl) (by kernel_rfl) (fun _ _ _ h => h) (Or.inl ⟨by rfl, ?_⟩) hH ?_
  rotate_left
  · ((intro w hSw; (try dsimp only at hSw); go_simp); try with_reducible rfl)
  simp only [Act.put, List.setIfInBounds_toArray, List.set_cons_zero, List.set_cons_succ]
  refine take_list (i := 8) (v := ?_) rfl (by kernel_rfl) (by kernel_rfl) (by kernel_rfl) (fun _ _ _ h => h) (Or.inl ⟨by rfl, ?_⟩) hH ?_
  rotate_left
  · ((intro w hSw; (try dsimp only at hSw); go_simp); try with_reducible rfl)
  simp only [Act.put, List.setIfInBounds_toArray, List.set_cons_zero, List.set_cons_succ]
  refine take_list (i := 9) (v := ?_) rfl (by kernel_rfl) (by kernel_rfl) (by kernel_rfl) (fun _ _ _ h => h) (Or.inl ⟨by rfl, ?_⟩) hH ?_
  rotate_left
  · ((intro w hSw; (try dsimp only at hSw); go_simp); try with_reducible rfl)
  simp only [Act.put, List.setIfInBounds_toArray, List.set_cons_zero, List.set_cons_succ]
  refine take_list (i := 10) (v := ?_) rfl (by kernel_rfl) (by kernel_rfl) (by kernel_rfl) (fun _ _ _ h => h) (Or.inl ⟨by rfl, ?_⟩) hH ?_
  rotate_left
  · ((intro w hSw; (try dsimp only at hSw); go_simp); try with_reducible rfl)
  simp only [Act.put, List.setIfInBounds_toArray, List.set_cons_zero, List.set_cons_succ]
  refine wpAnyH_done (by kernel_rfl) ?_ _
  clear hH P1
  generalize w.drew = w2 at P2 s2 s3 ⊢
  go_wp2_with fail
  clear s2 s3
  refine (row_slot _ P2.out.two.sl s.row rfl).mono ?_
  rintro e w3 ⟨b3, k3, rfl, h3, o3⟩
  have H3 := Lib.hid (h3.quiet ((Only.refl [] w3).drew))
  have P3 := Lib.hid (((P2.out.fresh (F' := (Value.slice b3 s.row.length k3).ownBlock.toList) (fun k hk => .inr (h3.lt (by simpa using hk)).1)).quiet o3).quiet ((Only.refl [] w3).drew))
  have HN3 := Lib.hid (fun k (hk : (Value.slice b3 s.row.length k3).ownBlock = some k) => Nat.le_trans P2.out.only.size (h3.lt hk).1)
  obtain ⟨S, hS⟩ : ∃ S, S = strOf s.row := ⟨_, rfl⟩
  have t1 := str_bytes H3.out.bytes hS
  have hvb := P3.out.two.rs.row.bytes
  have z3 := P3.out.two.rs.c3
  have z2 := P3.out.two.rs.c2
  obtain ⟨va, vc, rfl, -⟩ := id hvb
  have t2 := str_bytes hvb hS
  have s2 : w3.drew.cell? ⟨q, 2, none⟩ = some (.pointer (some ⟨p, 0, none⟩)) := P3.out.bs.cell2
  have s3 : w3.drew.cell? ⟨q, 3, none⟩ = some (.pointer (some ⟨p', 0, none⟩)) := P3.out.bs.cell3
  have hl := P3.out.two.sl.len
  clear h3 o3 P2 hS hvb
  go_wp2_with fail
  refine wp_region_held_drew (S := fun w' => w'.cell? ⟨q, 2, none⟩ = some (.pointer (some ⟨p, 0, none⟩)) ∧ w'.cell? ⟨q, 3, none⟩ = some (.pointer (some ⟨p', 0, none⟩)) ∧ w'.cell? ⟨p', 2, none⟩ = some (.int .i64 s.n) ∧ w'.cell? ⟨p', 3, none⟩ = some (.slice va s.row.length vc) ∧ (convert 37 9 (.slice b3 s.row.length k3)).run Try.prog w' = .ok (.string S) w' ∧ (convert 37 9 (.slice va s.row.length vc)).run Try.prog w' = .ok (.string S) w') (by kernel_rfl) ⟨s2, s3, z2, z3, t1, t2⟩ (fun hH => ?_)
  clear s2 s3 z2 z3 t1 t2
  refine take_list (i := 0) (v := ?_) rfl (by kernel_rfl) (by kernel_rfl) (by kernel_rfl) (fun _ _ _ h => h) (Or.inl ⟨by rfl, ?_⟩) hH ?_
  rotate_left
  · ((intro w hSw; (try dsimp only at hSw); go_simp); try with_reducible rfl)
  simp only [Act.put, List.setIfInBounds_toArray, List.set_cons_zero, List.set_cons_succ]
  refine take_list (i := 1) (v := ?_) rfl (by kernel_rfl) (by kernel_rfl) (by kernel_rfl) (fun _ _ _ h => h) (Or.inl ⟨by rfl, ?_⟩) hH ?_
  rotate_left
  · ((intro w hSw; (try dsimp only at hSw); go_simp); try with_reducible rfl)
  simp only [Act.put, List.setIfInBounds_toArray, List.set_cons_zero, List.set_cons_succ]
  refine take_list (i := 2) (v := ?_) rfl (by kernel_rfl) (by kernel_rfl) (by kernel_rfl) (fun _ _ _ h => h) (Or.inl ⟨by rfl, ?_⟩) hH ?_
  rotate_left
  · ((intro w hSw; (try dsimp only at hSw); go_simp); try with_reducible rfl)
  simp only [Act.put, List.setIfInBounds_toArray, List.set_cons_zero, List.set_cons_succ]
  refine take_list (i := 3) (v := ?_) rfl (by kernel_rfl) (by kernel_rfl) (by kernel_rfl) (fun _ _ _ h => h) (Or.inl ⟨by rfl, ?_⟩) hH ?_
  rotate_left
  · ((intro w hSw; (try dsimp only at hSw); go_simp); try with_reducible rfl)
  simp only [Act.put, List.setIfInBounds_toArray, List.set_cons_zero, List.set_cons_succ]
  refine take_list (i := 5) (v := ?_) rfl (by kernel_rfl) (by kernel_rfl) (by kernel_rfl) (fun _ _ _ h => h) (Or.inl ⟨by rfl, ?_⟩) hH ?_
  rotate_left
  · ((intro w hSw; (try dsimp only at hSw); go_simp); try with_reducible rfl)
  simp only [Act.put, List.setIfInBounds_toArray, List.set_cons_zero, List.set_cons_succ]
  refine take_list (i := 6) (v := ?_) rfl (by kernel_rfl) (by kernel_rfl) (by kernel_rfl) (fun _ _ _ h => h) (Or.inl ⟨by rfl, ?_⟩) hH ?_
  rotate_left
  · ((intro w hSw; (try dsimp only at hSw); go_simp); try with_reducible rfl)
  simp only [Act.put, List.setIfInBounds_toArray, List.set_cons_zero, List.set_cons_succ]
  refine take_list (i := 7) (v := ?_) rfl (by kernel_rfl) (by kernel_rfl) (by kernel_rfl) (fun _ _ _ h => h) (Or.inl ⟨by rfl, ?_⟩) hH ?_
  rotate_left
  · ((intro w hSw; (try dsimp only at hSw); go_simp); try with_reducible rfl)
  simp only [Act.put, List.setIfInBounds_toArray, List.set_cons_zero, List.set_cons_succ]
  refine take_list (i := 8) (v := ?_) rfl (by kernel_rfl) (by kernel_rfl) (by kernel_rfl) (fun _ _ _ h => h) (Or.inl ⟨by rfl, ?_⟩) hH ?_
  rotate_left
  · ((intro w hSw; (try dsimp only at hSw); go_simp); try with_reducible rfl)
  simp only [Act.put, List.setIfInBounds_toArray, List.set_cons_zero, List.set_cons_succ]
  refine take_list (i := 9) (v := ?_) rfl (by kernel_rfl) (by kernel_rfl) (by kernel_rfl) (fun _ _ _ h => h) (Or.inl ⟨by rfl, ?_⟩) hH ?_
  rotate_left
  · ((intro w hSw; (try dsimp only at hSw); go_simp); try with_reducible rfl)
  simp only [Act.put, List.setIfInBounds_toArray, List.set_cons_zero, List.set_cons_succ]
  refine take_list (i := 10) (v := ?_) rfl (by kernel_rfl) (by kernel_rfl) (by kernel_rfl) (fun _ _ _ h => h) (Or.inl ⟨by rfl, ?_⟩) hH ?_
  rotate_left
  · ((intro w hSw; (try dsimp only at hSw); go_simp); try with_reducible rfl)
  simp only [Act.put, List.setIfInBounds_toArray, List.set_cons_zero, List.set_cons_succ]
  refine take_list (i := 11) (v := ?_) rfl (by kernel_rfl) (by kernel_rfl) (by kernel_rfl) (fun _ _ _ h => h) (Or.inl ⟨by rfl, ?_⟩) hH ?_
  rotate_left
  · ((intro w hSw; (try dsimp only at hSw); go_simp); try with_reducible rfl)
  simp only [Act.put, List.setIfInBounds_toArray, List.set_cons_zero, List.set_cons_succ]
  refine wpAnyH_ready (rs := [4]) (by kernel_rfl) (by simp) ?_
  refine ready_list rfl (fun K hK => ?_)
  go_simp
  refine (number_slot _ P3.out.two.sl s.n rfl).mono ?_
  rintro e w' ⟨rfl, rfl⟩
  refine hK.out _ _ hH (fun hH => ?_)
  clear hK K
  refine take_list (i := 12) (v := ?_) rfl (by kernel_rfl) (by kernel_rfl) (by kernel_rfl) (fun _ _ _ h => h) (Or.inl ⟨by rfl, ?_⟩) hH ?_
  rotate_left
  · ((intro w hSw; (try dsimp only at hSw); go_simp); try with_reducible rfl)
  simp only [Act.put, List.setIfInBounds_toArray, List.set_cons_zero, List.set_cons_succ]
  refine take_list (i := 13) (v := ?_) rfl (by kernel_rfl) (by kernel_rfl) (by kernel_rfl) (fun _ _ _ h => h) (Or.inl ⟨by rfl, ?_⟩) hH ?_
  rotate_left
  · ((intro w hSw; (try dsimp only at hSw); go_simp); try with_reducible rfl)
  simp only [Act.put, List.setIfInBounds_toArray, List.set_cons_zero, List.set_cons_succ]
  refine take_list (i := 14) (v := ?_) rfl (by kernel_rfl) (by kernel_rfl) (by kernel_rfl) (fun _ _ _ h => h) (Or.inl ⟨by rfl, ?_⟩) hH ?_
  rotate_left
  · ((intro w hSw; (try dsimp only at hSw); go_simp); try with_reducible rfl)
  simp only [Act.put, List.setIfInBounds_toArray, List.set_cons_zero, List.set_cons_succ]
  refine take_list (i := 15) (v := ?_) rfl (by kernel_rfl) (by kernel_rfl) (by kernel_rfl) (fun _ _ _ h => h) (Or.inl ⟨by rfl, ?_⟩) hH ?_
  rotate_left
  · ((intro w hSw; (try dsimp only at hSw); go_simp); try with_reducible rfl)
  simp only [Act.put, List.setIfInBounds_toArray, List.set_cons_zero, List.set_cons_succ]
  refine take_list (i := 16) (v := ?_) rfl (by kernel_rfl) (by kernel_rfl) (by kernel_rfl) (fun _ _ _ h => h) (Or.inl ⟨by rfl, ?_⟩) hH ?_
  rotate_left
  · ((intro w hSw; (try dsimp only at hSw); go_simp); try with_reducible rfl)
  simp only [Act.put, List.setIfInBounds_toArray, List.set_cons_zero, List.set_cons_succ]
  refine take_list (i := 17) (v := ?_) rfl (by kernel_rfl) (by kernel_rfl) (by kernel_rfl) (fun _ _ _ h => h) (Or.inl ⟨by rfl, ?_⟩) hH ?_
  rotate_left
  · ((intro w hSw; (try dsimp only at hSw); go_simp); try with_reducible rfl)
  simp only [Act.put, List.setIfInBounds_toArray, List.set_cons_zero, List.set_cons_succ]
  refine take_list (i := 18) (v := ?_) rfl (by kernel_rfl) (by kernel_rfl) (by kernel_rfl) (fun _ _ _ h => h) (Or.inl ⟨by rfl, ?_⟩) hH ?_
  rotate_left
  · ((intro w hSw; (try dsimp only at hSw); go_simp); try with_reducible rfl)
  simp only [Act.put, List.setIfInBounds_toArray, List.set_cons_zero, List.set_cons_succ]
  refine take_list (i := 19) (v := ?_) rfl (by kernel_rfl) (by kernel_rfl) (by kernel_rfl) (fun _ _ _ h => h) (Or.inl ⟨by rfl, ?_⟩) hH ?_
  rotate_left
  · ((intro w hSw; (try dsimp only at hSw); go_simp); try with_reducible rfl)
  simp only [Act.put, List.setIfInBounds_toArray, List.set_cons_zero, List.set_cons_succ]
  refine take_list (i := 20) (v := ?_) rfl (by kernel_rfl) (by kernel_rfl) (by kernel_rfl) (fun _ _ _ h => h) (Or.inl ⟨by rfl, ?_⟩) hH ?_
  rotate_left
  · ((intro w hSw; (try dsimp only at hSw); go_simp); try with_reducible rfl)
  simp only [Act.put, List.setIfInBounds_toArray, List.set_cons_zero, List.set_cons_succ]
  refine take_list (i := 21) (v := ?_) rfl (by kernel_rfl) (by kernel_rfl) (by kernel_rfl) (fun _ _ _ h => h) (Or.inl ⟨by rfl, ?_⟩) hH ?_
  rotate_left
  · ((intro w hSw; (try dsimp only at hSw); go_simp); try with_reducible rfl)
  simp only [Act.put, List.setIfInBounds_toArray, List.set_cons_zero, List.set_cons_succ]
  refine take_list (i := 22) (v := ?_) rfl (by kernel_rfl) (by kernel_rfl) (by kernel_rfl) (fun _ _ _ h => h) (Or.inl ⟨by rfl, ?_⟩) hH ?_
  rotate_left
  · ((intro w hSw; (try dsimp only at hSw); go_simp); try with_reducible rfl)
  simp only [Act.put, List.setIfInBounds_toArray, List.set_cons_zero, List.set_cons_succ]
  refine take_list (i := 23) (v := ?_) rfl (by kernel_rfl) (by kernel_rfl) (by kernel_rfl) (fun _ _ _ h => h) (Or.inl ⟨by rfl, ?_⟩) hH ?_
  rotate_left
  · ((intro w hSw; (try dsimp only at hSw); go_simp); try with_reducible rfl)
  simp only [Act.put, List.setIfInBounds_toArray, List.set_cons_zero, List.set_cons_succ]
  refine take_list (i := 24) (v := ?_) rfl (by kernel_rfl) (by kernel_rfl) (by kernel_rfl) (fun _ _ _ h => h) (Or.inl ⟨by rfl, ?_⟩) hH ?_
  rotate_left
  · ((intro w hSw; (try dsimp only at hSw); go_simp); try with_reducible rfl)
  simp only [Act.put, List.setIfInBounds_toArray, List.set_cons_zero, List.set_cons_succ]
  refine take_list (i := 25) (v := ?_) rfl (by kernel_rfl) (by kernel_rfl) (by kernel_rfl) (fun _ _ _ h => h) (Or.inl ⟨by rfl, ?_⟩) hH ?_
  rotate_left
  · ((intro w hSw; (try dsimp only at hSw); go_simp); try with_reducible rfl)
  simp only [Act.put, List.setIfInBounds_toArray, List.set_cons_zero, List.set_cons_succ]
  refine wpAnyH_done (by kernel_rfl) ?_ _
  clear hH
  generalize w3.drew = w4 at P3 H3 ⊢
  go_wp2_with fail
  refine (over_any _ s.row.length _ H3.out.row (by omega)).mono ?_
  rintro e w5 ⟨rfl, _, o5⟩
  have p5 : PT w0 w5 (Value.slice b3 s.row.length k3).ownBlock.toList q g cs a b D R p p' v (.slice va s.row.length vc) s s := by
    cases hv : (Value.slice b3 s.row.length k3).ownBlock with
    | none =>
      rw [hv] at o5 P3
      exact P3.out.quiet o5
    | some x =>
      obtain ⟨cur, hcc⟩ := H3.out.held.blk x hv
      rw [hv] at o5 P3
      exact P3.out.over hcc (by simp) (HN3.out x hv) o5
  have P5 := Lib.hid (show PS w0 w5 [] q g cs a b D R sv0 tv0 from by rw [HSV.out, HTV.out]; exact p5.done.drop)
  clear p5 o5 P3 H3 HN3
  have k0 : w5.cell? ⟨q, 0, none⟩ = some (.pointer (some ⟨a.p, 0, none⟩)) := P5.out.bs.cell0
  have k1 : w5.cell? ⟨q, 1, none⟩ = some (.pointer (some ⟨b.p, 0, none⟩)) := P5.out.bs.cell1
  have k7 : w5.cell? ⟨b.p, 7, none⟩ = some (.bool R.down) := P5.out.bs.pr.ref.c7
  cases hd : R.down
  rotate_left
  · rw [hd] at k7
    have HD := Lib.hid hd
    clear hd
    go_wp2_with fail
    have P6 := Lib.hid (P5.out.quiet ((Only.refl [] w5).drew))
    have s7 : w5.drew.cell? ⟨b.p, 7, none⟩ = some (.bool true) := k7
    have s0 : w5.drew.cell? ⟨q, 0, none⟩ = some (.pointer (some ⟨a.p, 0, none⟩)) := k0
    have s1 : w5.drew.cell? ⟨q, 1, none⟩ = some (.pointer (some ⟨b.p, 0, none⟩)) := k1
    refine wp_region_held_drew (S := fun w' => w'.cell? ⟨q, 0, none⟩ = some (.pointer (some ⟨a.p, 0, none⟩)) ∧ w'.cell? ⟨q, 1, none⟩ = some (.pointer (some ⟨b.p, 0, none⟩)) ∧ w'.cell? ⟨b.p, 7, none⟩ = some (.bool true)) (by kernel_rfl) ⟨s0, s1, s7⟩ (fun hH => ?_)
    refine take_list (i := 0) (v := ?_) rfl (by kernel_rfl) (by kernel_rfl) (by kernel_rfl) (fun _ _ _ h => h) (Or.inl ⟨by rfl, ?_⟩) hH ?_
    rotate_left
    · ((intro w hSw; (try dsimp only at hSw); go_simp); try with_reducible rfl)
    simp only [Act.put, List.setIfInBounds_toArray, List.set_cons_zero, List.set_cons_succ]
    refine take_list (i := 1) (v := ?_) rfl (by kernel_rfl) (by kernel_rfl) (by kernel_rfl) (fun _ _ _ h => h) (Or.inl ⟨by rfl, ?_⟩) hH ?_
    rotate_left
    · ((intro w hSw; (try dsimp only at hSw); go_simp); try with_reducible rfl)
    simp only [Act.put, List.setIfInBounds_toArray, List.set_cons_zero, List.set_cons_succ]
    refine take_list (i := 2) (v := ?_) rfl (by kernel_rfl) (by kernel_rfl) (by kernel_rfl) (fun _ _ _ h => h) (Or.inl ⟨by rfl, ?_⟩) hH ?_
    rotate_left
    · ((intro w hSw; (try dsimp only at hSw); go_simp); try with_reducible rfl)
    simp only [Act.put, List.setIfInBounds_toArray, List.set_cons_zero, List.set_cons_succ]
    refine take_list (i := 3) (v := ?_) rfl (by kernel_rfl) (by kernel_rfl) (by kernel_rfl) (fun _ _ _ h => h) (Or.inl ⟨by rfl, ?_⟩) hH ?_
    rotate_left
    · ((intro w hSw; (try dsimp only at hSw); go_simp); try with_reducible rfl)
    simp only [Act.put, List.setIfInBounds_toArray, List.set_cons_zero, List.set_cons_succ]
    refine take_list (i := 4) (v := ?_) rfl (by kernel_rfl) (by kernel_rfl) (by kernel_rfl) (fun _ _ _ h => h) (Or.inl ⟨by rfl, ?_⟩) hH ?_
    rotate_left
    · ((intro w hSw; (try dsimp only at hSw); go_simp); try with_reducible rfl)
    simp only [Act.put, List.setIfInBounds_toArray, List.set_cons_zero, List.set_cons_succ]
    refine take_list (i := 5) (v := ?_) rfl (by kernel_rfl) (by kernel_rfl) (by kernel_rfl) (fun _ _ _ h => h) (Or.inl ⟨by rfl, ?_⟩) hH ?_
    rotate_left
    · ((intro w hSw; (try dsimp only at hSw); go_simp); try with_reducible rfl)
    simp only [Act.put, List.setIfInBounds_toArray, List.set_cons_zero, List.set_cons_succ]
    refine take_list (i := 6) (v := ?_) rfl (by kernel_rfl) (by kernel_rfl) (by kernel_rfl) (fun _ _ _ h => h) (Or.inl ⟨by rfl, ?_⟩) hH ?_
    rotate_left
    · ((intro w hSw; (try dsimp only at hSw); go_simp); try with_reducible rfl)
    simp only [Act.put, List.setIfInBounds_toArray, List.set_cons_zero, List.set_cons_succ]
    refine take_list (i := 7) (v := ?_) rfl (by kernel_rfl) (by kernel_rfl) (by kernel_rfl) (fun _ _ _ h => h) (Or.inl ⟨by rfl, ?_⟩) hH ?_
    rotate_left
    · ((intro w hSw; (try dsimp only at hSw); go_simp); try with_reducible rfl)
    simp only [Act.put, List.setIfInBounds_toArray, List.set_cons_zero, List.set_cons_succ]
    refine take_list (i := 8) (v := ?_) rfl (by kernel_rfl) (by kernel_rfl) (by kernel_rfl) (fun _ _ _ h => h) (Or.inl ⟨by rfl, ?_⟩) hH ?_
    rotate_left
    · ((intro w hSw; (try dsimp only at hSw); go_simp); try with_reducible rfl)
    simp only [Act.put, List.setIfInBounds_toArray, List.set_cons_zero, List.set_cons_succ]
    refine take_list (i := 9) (v := ?_) rfl (by kernel_rfl) (by kernel_rfl) (by kernel_rfl) (fun _ _ _ h => h) (Or.inl ⟨by rfl, ?_⟩) hH ?_
    rotate_left
    · ((intro w hSw; (try dsimp only at hSw); go_simp); try with_reducible rfl)
    simp only [Act.put, List.setIfInBounds_toArray, List.set_cons_zero, List.set_cons_succ]
    refine take_list (i := 10) (v := ?_) rfl (by kernel_rfl) (by kernel_rfl) (by kernel_rfl) (fun _ _ _ h => h) (Or.inl ⟨by rfl, ?_⟩) hH ?_
    rotate_left
    · ((intro w hSw; (try dsimp only at hSw); go_simp); try with_reducible rfl)
    simp only [Act.put, List.setIfInBounds_toArray, List.set_cons_zero, List.set_cons_succ]
    refine wpAnyH_ready (rs := [11]) (by kernel_rfl) (by simp) ?_
    refine ready_list rfl (fun K hK => ?_)
    go_simp
    refine (down_st P6.out.bs.pr.st true (by rw [HM.out.down]; exact HD.out)).mono ?_
    rintro e w' ⟨rfl, rfl⟩
    refine hK.out _ _ hH (fun hH => ?_)
    clear hK K
    refine take_list (i := 12) (v := ?_) rfl (by kernel_rfl) (by kernel_rfl) (by kernel_rfl) (fun _ _ _ h => h) (Or.inl ⟨by rfl, ?_⟩) hH ?_
    rotate_left
    · ((intro w hSw; (try dsimp only at hSw); go_simp); try with_reducible rfl)
    simp only [Act.put, List.setIfInBounds_toArray, List.set_cons_zero, List.set_cons_succ]
    refine take_list (i := 13) (v := ?_) rfl (by kernel_rfl) (by kernel_rfl) (by kernel_rfl) (fun _ _ _ h => h) (Or.inl ⟨by rfl, ?_⟩) hH ?_
    rotate_left
    · ((intro w hSw; (try dsimp only at hSw); go_simp); try with_reducible rfl)
    simp only [Act.put, List.setIfInBounds_toArray, List.set_cons_zero, List.set_cons_succ]
    refine wpAnyH_done (by kernel_rfl) ?_ _
    clear hH
    go_wp2_with fail
    go_ret
    exact ⟨rfl, _, _, _, _, _, _, P6.out, HM.out⟩
  rw [hd] at k7
  have HD := Lib.hid hd
  have k5 : w5.cell? ⟨b.p, 0, none⟩ = some (.slice (some ⟨b.gN, 0, none⟩) R.n b.cN) := P5.out.bs.pr.ref.c0
  clear hd
  go_wp2_with fail
  refine (down_st P5.out.bs.pr.st false (by rw [HM.out.down]; exact HD.out)).mono ?_
  rintro e w' ⟨rfl, rfl⟩
  have hn4 := P5.out.bs.pr.ref.hi
  go_wp2_with fail
  clear k0 k1 k7 k5
  go_loopw [4, 5, 6, 7, 92] (fun _ _ _ _ i wr => ∃ k : Nat, k ≤ R.n ∧ i = .int .i64 k ∧ PS w0 wr [] q g cs a b D R sv0 tv0) (fun _ _ _ _ i _ => R.n - (intOf i).toNat)
  case atStart => exact ⟨0, by omega, rfl, P5.out⟩
  case round =>
    clear P5
    obtain ⟨k, hk, rfl, p6⟩ := hrel
    have P6 := Lib.hid p6
    have k0 : wr.cell? ⟨q, 0, none⟩ = some (.pointer (some ⟨a.p, 0, none⟩)) := p6.bs.cell0
    clear p6
    have i0 : (0 : Int) ≤ (k : Int) := by omega
    by_cases hlt : k < R.n
    · have i1 : (k : Int) < (R.n : Int) := by omega
      obtain ⟨v7, hv7, hr7⟩ := P6.out.bs.pr.ref.row hlt
      have HR7 := Lib.hid hr7
      obtain ⟨gr, capr, rfl⟩ := hr7.shape
      clear hr7
      go_wp2_with fail
      refine (read_st (k : Int) P6.out.bs.pr.st (by rw [HM.out.size]; exact inB_iff.2 ⟨i0, i1⟩) (by rw [HM.out.down]; exact HD.out) (R.now k) (HM.out.now k hlt)).mono ?_
      rintro e w7 ⟨g7, rfl, b7, _, _, o7⟩
      have P7 := Lib.hid (P6.out.quiet o7)
      obtain ⟨S, hS⟩ : ∃ S, S = strOf (R.now k) := ⟨_, rfl⟩
      have s1 := str_bytes (HR7.out.kept o7 (foreign_nil _ _)).bytes hS
      have s2 := str_of b7 HR7.out.len hS
      clear k0 hv7 b7 o7 P6 HR7 hS
      go_wp2_with fail
      go_roundw
      case rel => exact ⟨k + 1, by omega, by go_num, P7.out⟩
      case measure => simp [intOf]; omega
    · obtain rfl : k = R.n := by omega
      go_wp2_with fail
      go_ret
      exact ⟨rfl, _, _, _, _, _, _, P6.out, HM.out⟩

theorem same3 (h : PS w0 w [] q g cs a b D R sv tv) (hm : Match D R) : Calls Try.prog 12 #[.pointer (some ⟨q, 0, none⟩)] w (PlayP w0 q a b) := by
  rcases h.ss with ⟨rfl, rfl⟩ | ⟨s, p, p', v, v', rfl, rfl, ht⟩
  · exact same3_none h hm
  · exact same3_some h.bs ht hm
end
end Go.Proofs.Ytdmkmjlkogkmgaa
