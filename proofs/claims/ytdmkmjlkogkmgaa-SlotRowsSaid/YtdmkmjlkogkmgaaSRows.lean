/- SlotRows: whatever the size, the place and the row, the law returns true: how long a row may be, and where slots find room; the arguments read as they did. No condition. -/
import Derived.Test.YtdmkmjlkogkmgaaT6
import Derived.Test.YtdmkmjlkogkmgaaD10
namespace Go.Proofs.Ytdmkmjlkogkmgaa
open Go.ChangeShapes Go.WideShapes Go.ChangeAt Go.RowKit Go.Maps
set_option linter.unusedVariables false
set_option linter.unusedSimpArgs false

theorem err_2020 (w : World) : (binOp .eql 26 (err 20) (err 20)).run Try.prog w = .ok (.bool true) w := by kernel_rfl
theorem save_long {w : World} {p : Nat} {a : DA} {v : Value} {s : SL} (rv : Value) (r : Sec) (h : Slot w p a v s) (hr : Bytes w rv r) (hl : 480 < r.length) (hl2 : r.length ≤ 4611686018427387904) :
    Calls Try.prog 14 #[.pointer (some ⟨p, 0, none⟩), rv] w fun e w' => e = .returned (err 2) ∧ w = w' := by
  obtain ⟨ra, rc, rfl, -⟩ := hr
  have hl' : (480 : Int) < (r.length : Int) := by omega
  have c2 := h.c2
  clear h
  go_enter Try.func14, Try.ntmps14
  go_wp2_with fail
  go_ret
  exact ⟨rfl, rfl⟩
def long481 : Sec := List.replicate 481 0
theorem make_481 (w : World) : (Instr.makeSlice 37 (.int .i64 481) (.int .i64 481)).run Try.prog w = .ok (.slice (some ⟨w.heap.size, 0, none⟩) 481 481) (w.alloc (.cells (enc long481) 5)) := by kernel_rfl
section
variable {w : World} {ops : Array Oper} {o : Oper} {a : Act} {Q : Exit → Act → World → Prop}
theorem step_make481 {K : Act → World → Prop} {E : Prop} (hw : Region.wanted o (yielded ops a.tmps) = true) (hop : o.op = .makeSlice 37 (.const (.int .i64 481)) (.const (.int .i64 481)))
    (h : ∀ w' g, BBlk w' g long481 → w.heap.size ≤ g → Only [] w w' → K (a.put o.dst (.slice (some ⟨g, 0, none⟩) 481 481)) w') : if Region.wanted o (yielded ops a.tmps) = true then Oper.wp Try.prog o a w K Q else E := by
  rw [if_pos hw]
  unfold Oper.wp
  simp [execOp, hop, Act.eval, make_481, Result.andThen]
  exact h _ _ (heap_new w _) (Nat.le_refl _) ((Only.refl _ _).alloc _)
end

set_option maxRecDepth 100000 in
set_option maxHeartbeats 4000000 in
theorem srows_walk (size at_ : Int) (v : Value) (l : Sec) (w : World) (hw : (Lit.int .i64 size).wf = true) (ha : (Lit.int .i64 at_).wf = true) (hv : Bytes w v l) (hl : l.length ≤ maxLen) :
    Calls Try.prog 6 #[.int .i64 size, .int .i64 at_, v] w fun e w' => e = .returned (.bool true) ∧ Only [] w w' := by
  obtain ⟨va, vc, rfl, -⟩ := id hv
  have HV := Lib.hid hv
  have hl' : l.length ≤ 9223372036854775807 := by unfold maxLen at hl; omega
  clear hv hl hw ha
  have q1 := err_11
  have q2 := err_22
  have q20 := err_2020
  have q0 := iface_nil
  go_enter Try.func6, Try.ntmps6
  go_wp2_with fail
  refine (alive3_any _).mono ?_
  rintro e w1 ⟨rfl, o1⟩
  by_cases hs0 : size < 1
  · go_wp2_with fail
    go_ret
    exact ⟨rfl, o1⟩
  by_cases hs1 : (100 : Int) < size
  · go_wp2_with fail
    go_ret
    exact ⟨rfl, o1⟩
  by_cases hs2 : (4096 : Int) < (l.length : Int)
  · go_wp2_with fail
    go_ret
    exact ⟨rfl, o1⟩
  go_wp2_with fail
  refine (new_st size w1 (by omega) (by omega)).mono ?_
  rintro e w2 ⟨a, rfl, h2⟩
  have V2 := Lib.hid (HV.out.kept (o1.trans h2.only (by simp)) (clean_nil _))
  have H2 := Lib.hid h2
  have O1 := Lib.hid o1
  clear h2 o1
  go_wp2_with fail
  refine (Open_any at_ H2.out.dev).mono ?_
  rintro e w3 ⟨⟨_, _, _, hno⟩, o3⟩
  have H3 := Lib.hid (H2.out.quiet o3)
  have V3 := Lib.hid (V2.out.kept o3 (clean_nil _))
  clear H2 V2 o3
  by_cases hf : fitB at_ size = true
  rotate_left
  · have hff : fitB at_ size = false := by simpa using hf
    have e1 : (Disk.fresh size).ocode at_ = 1 := by unfold Disk.ocode; rw [show (Disk.fresh size).size = size from rfl, hff]; rfl
    have e2 : (Disk.fresh size).fcode at_ l = 1 := by unfold Disk.fcode; rw [show (Disk.fresh size).size = size from rfl, hff]; rfl
    have e3 := hno (by rw [e1]; decide)
    rw [e1] at e3
    subst e3
    have hat : at_ < 0 ∨ size - 1 ≤ at_ := by
      have : ¬ (0 ≤ at_ ∧ at_ ≤ size - 2) := fun h => hf (fitB_iff.2 h)
      omega
    have E2 := Lib.hid e2
    clear hf hff e1 e2 hno
    go_wp2_with fail
    refine (Format_any at_ _ l H3.out.dev V3.out (by omega)).mono ?_
    rintro e w4 ⟨_, o4, _, hno4⟩
    have e4 := hno4 (by rw [E2.out]; decide)
    rw [E2.out] at e4
    subst e4
    have O4 := Lib.hid (O1.out.trans (H3.out.only.trans o4 (fun k hk => .inr (H3.out.new k hk))) (by simp))
    clear hno4 o4 H3 V3
    rcases hat with hat | hat
    · go_wp2_with fail
      go_ret
      exact ⟨rfl, O4.out⟩
    · have hwr : IntKind.i64.wrap (size - 1) = size - 1 := by
        rw [IntKind.wrap_i64]
        omega
      by_cases hneg : at_ < 0
      · go_wp2_with fail
        go_ret
        exact ⟨rfl, O4.out⟩
      · go_wp2_with fail
        go_ret
        exact ⟨rfl, O4.out⟩
  have hat := fitB_iff.1 hf
  have e1 : (Disk.fresh size).ocode at_ = 20 := by unfold Disk.ocode; rw [show (Disk.fresh size).size = size from rfl, hf, op_fresh]; rfl
  have e3 := hno (by rw [e1]; decide)
  rw [e1] at e3
  subst e3
  clear e1 hno
  have n1 : ¬ at_ < 0 := by omega
  have n2 : ¬ size - 1 ≤ at_ := by omega
  go_wp2_with fail
  by_cases hlen : 480 < l.length
  · have hlen' : (480 : Int) < (l.length : Int) := by omega
    have e2 : (Disk.fresh size).fcode at_ l = 2 := by unfold Disk.fcode; rw [show (Disk.fresh size).size = size from rfl, hf, if_pos hlen]; rfl
    have e5 : (Disk.fresh size).fm at_ l = Disk.fresh size := by unfold Disk.fm; rw [show (Disk.fresh size).size = size from rfl, hf, if_pos hlen]; rfl
    have E2 := Lib.hid e2
    have E5 := Lib.hid e5
    clear hf e2 e5
    refine (Format_any at_ _ l H3.out.dev V3.out (by omega)).mono ?_
    rintro e w4 ⟨d4, o4, _, hno4⟩
    have e4 := hno4 (by rw [E2.out]; decide)
    rw [E2.out] at e4
    subst e4
    rw [E5.out] at d4
    have H4 := Lib.hid (H3.out.step o4 d4)
    clear hno4 o4 d4 H3 V3
    go_wp2_with fail
    refine (steps_st H4.out 0 rfl).mono ?_
    rintro e w' ⟨rfl, rfl⟩
    go_wp2_with fail
    go_ret
    exact ⟨rfl, O1.out.trans H4.out.only (by simp)⟩
  have hlen' : ¬ (480 : Int) < (l.length : Int) := by omega
  obtain ⟨_, hcalm, hholds⟩ := fm_calm (at_ := at_) (r := l) (Disk.Calm.fresh size) hf (by omega)
  have HH := Lib.hid hholds
  refine (format_st H3.out V3.out (by omega) (Disk.Calm.fresh size) hf H3.out.only.size).mono ?_
  rintro e w4 ⟨p, v4, rfl, s4⟩
  have S4 := Lib.hid s4
  have HCA := Lib.hid hcalm
  clear hcalm hholds s4 H3 V3
  go_wp2_with fail
  have V4 := Lib.hid ((HV.out.kept (O1.out.trans S4.out.st.only (by simp)) (clean_nil _)).kept ((Only.refl [] w4).drew) (clean_nil _))
  have S5 := Lib.hid (S4.out.quiet ((Only.refl [] w4).drew))
  obtain ⟨S, hS⟩ : ∃ S, S = strOf l := ⟨_, rfl⟩
  have HSS := Lib.hid hS
  have c1 := str_bytes V4.out hS
  clear hS S4 HV
  refine wp_region_held_drew (S := fun w' => (convert 37 9 (.slice va l.length vc)).run Try.prog w' = .ok (.string S) w') (by kernel_rfl) c1 (fun hH => ?_)
  clear c1
  refine take_list (i := 0) (v := ?_) rfl (by kernel_rfl) (by kernel_rfl) (by kernel_rfl) (fun _ _ _ h => h) (Or.inl ⟨by rfl, ?_⟩) hH ?_
  rotate_left
  · ((intro w hSw; (try dsimp only at hSw); go_simp); try with_reducible rfl)
  simp only [Act.put, List.setIfInBounds_toArray, List.set_cons_zero, List.set_cons_succ]
  refine take_list (i := 1) (v := ?_) rfl (by kernel_rfl) (by kernel_rfl) (by kernel_rfl) (fun _ _ _ h => h) (Or.inl ⟨by rfl, ?_⟩) hH ?_
  rotate_left
  · ((intro w hSw; (try dsimp only at hSw); go_simp); try with_reducible rfl)
  simp only [Act.put, List.setIfInBounds_toArray, List.set_cons_zero, List.set_cons_succ]
  refine take_list (i := 2) (v := ?_) rfl (by kernel_rfl) (by kernel_rfl) (by kernel_rfl) (fun _ _ _ h => h) (Or.inl ⟨by rfl, ?_⟩) hH ?_
  rotate_left
  · ((intro w hSw; (try dsimp only at hSw); go_simp); try with_reducible rfl)
  simp only [Act.put, List.setIfInBounds_toArray, List.set_cons_zero, List.set_cons_succ]
  refine take_list (i := 3) (v := ?_) rfl (by kernel_rfl) (by kernel_rfl) (by kernel_rfl) (fun _ _ _ h => h) (Or.inl ⟨by rfl, ?_⟩) hH ?_
  rotate_left
  · ((intro w hSw; (try dsimp only at hSw); go_simp); try with_reducible rfl)
  simp only [Act.put, List.setIfInBounds_toArray, List.set_cons_zero, List.set_cons_succ]
  refine take_list (i := 4) (v := ?_) rfl (by kernel_rfl) (by kernel_rfl) (by kernel_rfl) (fun _ _ _ h => h) (Or.inl ⟨by rfl, ?_⟩) hH ?_
  rotate_left
  · ((intro w hSw; (try dsimp only at hSw); go_simp); try with_reducible rfl)
  simp only [Act.put, List.setIfInBounds_toArray, List.set_cons_zero, List.set_cons_succ]
  refine take_list (i := 5) (v := ?_) rfl (by kernel_rfl) (by kernel_rfl) (by kernel_rfl) (fun _ _ _ h => h) (Or.inl ⟨by rfl, ?_⟩) hH ?_
  rotate_left
  · ((intro w hSw; (try dsimp only at hSw); go_simp); try with_reducible rfl)
  simp only [Act.put, List.setIfInBounds_toArray, List.set_cons_zero, List.set_cons_succ]
  refine take_list (i := 6) (v := ?_) rfl (by kernel_rfl) (by kernel_rfl) (by kernel_rfl) (fun _ _ _ h => h) (Or.inl ⟨by rfl, ?_⟩) hH ?_
  rotate_left
  · ((intro w hSw; (try dsimp only at hSw); go_simp); try with_reducible rfl)
  simp only [Act.put, List.setIfInBounds_toArray, List.set_cons_zero, List.set_cons_succ]
  refine take_list (i := 7) (v := ?_) rfl (by kernel_rfl) (by kernel_rfl) (by kernel_rfl) (fun _ _ _ h => h) (Or.inl ⟨by rfl, ?_⟩) hH ?_
  rotate_left
  · ((intro w hSw; (try dsimp only at hSw); go_simp); try with_reducible rfl)
  simp only [Act.put, List.setIfInBounds_toArray, List.set_cons_zero, List.set_cons_succ]
  refine take_list (i := 8) (v := ?_) rfl (by kernel_rfl) (by kernel_rfl) (by kernel_rfl) (fun _ _ _ h => h) (Or.inl ⟨by rfl, ?_⟩) hH ?_
  rotate_left
  · ((intro w hSw; (try dsimp only at hSw); go_simp); try with_reducible rfl)
  simp only [Act.put, List.setIfInBounds_toArray, List.set_cons_zero, List.set_cons_succ]
  refine take_list (i := 9) (v := ?_) rfl (by kernel_rfl) (by kernel_rfl) (by kernel_rfl) (fun _ _ _ h => h) (Or.inl ⟨by rfl, ?_⟩) hH ?_
  rotate_left
  · ((intro w hSw; (try dsimp only at hSw); go_simp); try with_reducible rfl)
  simp only [Act.put, List.setIfInBounds_toArray, List.set_cons_zero, List.set_cons_succ]
  refine take_list (i := 10) (v := ?_) rfl (by kernel_rfl) (by kernel_rfl) (by kernel_rfl) (fun _ _ _ h => h) (Or.inl ⟨by rfl, ?_⟩) hH ?_
  rotate_left
  · ((intro w hSw; (try dsimp only at hSw); go_simp); try with_reducible rfl)
  simp only [Act.put, List.setIfInBounds_toArray, List.set_cons_zero, List.set_cons_succ]
  refine take_list (i := 11) (v := ?_) rfl (by kernel_rfl) (by kernel_rfl) (by kernel_rfl) (fun _ _ _ h => h) (Or.inl ⟨by rfl, ?_⟩) hH ?_
  rotate_left
  · ((intro w hSw; (try dsimp only at hSw); go_simp); try with_reducible rfl)
  simp only [Act.put, List.setIfInBounds_toArray, List.set_cons_zero, List.set_cons_succ]
  refine take_list (i := 12) (v := ?_) rfl (by kernel_rfl) (by kernel_rfl) (by kernel_rfl) (fun _ _ _ h => h) (Or.inl ⟨by rfl, ?_⟩) hH ?_
  rotate_left
  · ((intro w hSw; (try dsimp only at hSw); go_simp); try with_reducible rfl)
  simp only [Act.put, List.setIfInBounds_toArray, List.set_cons_zero, List.set_cons_succ]
  refine take_list (i := 15) (v := ?_) rfl (by kernel_rfl) (by kernel_rfl) (by kernel_rfl) (fun _ _ _ h => h) (Or.inl ⟨by rfl, ?_⟩) hH ?_
  rotate_left
  · ((intro w hSw; (try dsimp only at hSw); go_simp); try with_reducible rfl)
  simp only [Act.put, List.setIfInBounds_toArray, List.set_cons_zero, List.set_cons_succ]
  refine take_list (i := 16) (v := ?_) rfl (by kernel_rfl) (by kernel_rfl) (by kernel_rfl) (fun _ _ _ h => h) (Or.inl ⟨by rfl, ?_⟩) hH ?_
  rotate_left
  · ((intro w hSw; (try dsimp only at hSw); go_simp); try with_reducible rfl)
  simp only [Act.put, List.setIfInBounds_toArray, List.set_cons_zero, List.set_cons_succ]
  refine wpAnyH_ready (rs := [13]) (by kernel_rfl) (by simp) ?_
  refine ready_list rfl (fun K hK => ?_)
  go_simp
  refine (row_slot _ S5.out.slot l rfl).mono ?_
  rintro e w6 ⟨b6, k6, rfl, h6, o6⟩
  have V6 := Lib.hid (V4.out.kept o6 (clean_nil _))
  have S6 := Lib.hid (S5.out.quiet o6)
  have B6 := Lib.hid h6.bytes
  refine hK.out _ _ (str_bytes V6.out HSS.out) (fun _ => ?_)
  clear hK K hH h6 o6 V4 S5
  refine wpAnyH_sharpen (S' := fun w' => (convert 37 9 (.slice b6 l.length k6)).run Try.prog w' = .ok (.string S) w' ∧ (convert 37 9 (.slice va l.length vc)).run Try.prog w' = .ok (.string S) w') (fun _ h => h.2) ?_
  have hH := And.intro (str_bytes B6.out HSS.out) (str_bytes V6.out HSS.out)
  refine take_list (i := 14) (v := ?_) rfl (by kernel_rfl) (by kernel_rfl) (by kernel_rfl) (fun _ _ _ h => h) (Or.inl ⟨by rfl, ?_⟩) hH ?_
  rotate_left
  · ((intro w hSw; (try dsimp only at hSw); go_simp); try with_reducible rfl)
  simp only [Act.put, List.setIfInBounds_toArray, List.set_cons_zero, List.set_cons_succ]
  refine take_list (i := 17) (v := ?_) rfl (by kernel_rfl) (by kernel_rfl) (by kernel_rfl) (fun _ _ _ h => h) (Or.inl ⟨by rfl, ?_⟩) hH ?_
  rotate_left
  · ((intro w hSw; (try dsimp only at hSw); go_simp); try with_reducible rfl)
  simp only [Act.put, List.setIfInBounds_toArray, List.set_cons_zero, List.set_cons_succ]
  refine take_list (i := 18) (v := ?_) rfl (by kernel_rfl) (by kernel_rfl) (by kernel_rfl) (fun _ _ _ h => h) (Or.inl ⟨by rfl, ?_⟩) hH ?_
  rotate_left
  · ((intro w hSw; (try dsimp only at hSw); go_simp); try with_reducible rfl)
  simp only [Act.put, List.setIfInBounds_toArray, List.set_cons_zero, List.set_cons_succ]
  refine take_list (i := 19) (v := ?_) rfl (by kernel_rfl) (by kernel_rfl) (by kernel_rfl) (fun _ _ _ h => h) (Or.inl ⟨by rfl, ?_⟩) hH ?_
  rotate_left
  · ((intro w hSw; (try dsimp only at hSw); go_simp); try with_reducible rfl)
  simp only [Act.put, List.setIfInBounds_toArray, List.set_cons_zero, List.set_cons_succ]
  refine take_list (i := 20) (v := ?_) rfl (by kernel_rfl) (by kernel_rfl) (by kernel_rfl) (fun _ _ _ h => h) (Or.inl ⟨by rfl, ?_⟩) hH ?_
  rotate_left
  · ((intro w hSw; (try dsimp only at hSw); go_simp); try with_reducible rfl)
  simp only [Act.put, List.setIfInBounds_toArray, List.set_cons_zero, List.set_cons_succ]
  refine wpAnyH_ready (rs := [21]) (by kernel_rfl) (by simp) ?_
  refine ready_list rfl (fun K hK => ?_)
  go_simp
  refine (number_slot _ S6.out.slot 1 rfl).mono ?_
  rintro e w' ⟨rfl, rfl⟩
  refine hK.out _ _ hH (fun hH => ?_)
  clear hK K
  refine take_list (i := 22) (v := ?_) rfl (by kernel_rfl) (by kernel_rfl) (by kernel_rfl) (fun _ _ _ h => h) (Or.inl ⟨by rfl, ?_⟩) hH ?_
  rotate_left
  · ((intro w hSw; (try dsimp only at hSw); go_simp); try with_reducible rfl)
  simp only [Act.put, List.setIfInBounds_toArray, List.set_cons_zero, List.set_cons_succ]
  refine take_list (i := 23) (v := ?_) rfl (by kernel_rfl) (by kernel_rfl) (by kernel_rfl) (fun _ _ _ h => h) (Or.inl ⟨by rfl, ?_⟩) hH ?_
  rotate_left
  · ((intro w hSw; (try dsimp only at hSw); go_simp); try with_reducible rfl)
  simp only [Act.put, List.setIfInBounds_toArray, List.set_cons_zero, List.set_cons_succ]
  refine take_list (i := 24) (v := ?_) rfl (by kernel_rfl) (by kernel_rfl) (by kernel_rfl) (fun _ _ _ h => h) (Or.inl ⟨by rfl, ?_⟩) hH ?_
  rotate_left
  · ((intro w hSw; (try dsimp only at hSw); go_simp); try with_reducible rfl)
  simp only [Act.put, List.setIfInBounds_toArray, List.set_cons_zero, List.set_cons_succ]
  refine take_list (i := 25) (v := ?_) rfl (by kernel_rfl) (by kernel_rfl) (by kernel_rfl) (fun _ _ _ h => h) (Or.inl ⟨by rfl, ?_⟩) hH ?_
  rotate_left
  · ((intro w hSw; (try dsimp only at hSw); go_simp); try with_reducible rfl)
  simp only [Act.put, List.setIfInBounds_toArray, List.set_cons_zero, List.set_cons_succ]
  refine take_list (i := 28) (v := ?_) rfl (by kernel_rfl) (by kernel_rfl) (by kernel_rfl) (fun _ _ _ h => h) (Or.inl ⟨by rfl, ?_⟩) hH ?_
  rotate_left
  · ((intro w hSw; (try dsimp only at hSw); go_simp); try with_reducible rfl)
  simp only [Act.put, List.setIfInBounds_toArray, List.set_cons_zero, List.set_cons_succ]
  refine wpAnyH_ready (rs := [26]) (by kernel_rfl) (by simp) ?_
  refine ready_list rfl (fun K hK => ?_)
  refine step_make481 (by rfl) rfl (fun w7 g7 b7 hg7 o7 => ?_)
  have V7 := Lib.hid (V6.out.kept o7 (clean_nil _))
  have B7 := Lib.hid (B6.out.kept o7 (clean_nil _))
  have S7 := Lib.hid (S6.out.quiet o7)
  have L7 := Lib.hid (b7.bytes 481)
  refine hK.out _ _ ⟨str_bytes B7.out HSS.out, str_bytes V7.out HSS.out⟩ (fun hH => ?_)
  clear hK K V6 B6 S6 b7 o7
  refine wpAnyH_ready (rs := [27]) (by kernel_rfl) (by simp) ?_
  refine ready_list rfl (fun K hK => ?_)
  go_simp
  refine (save_long _ long481 S7.out.slot L7.out (by decide +kernel) (by decide +kernel)).mono ?_
  rintro e w' ⟨rfl, rfl⟩
  refine hK.out _ _ hH (fun hH => ?_)
  clear hK K
  refine take_list (i := 29) (v := ?_) rfl (by kernel_rfl) (by kernel_rfl) (by kernel_rfl) (fun _ _ _ h => h) (Or.inl ⟨by rfl, ?_⟩) hH ?_
  rotate_left
  · ((intro w hSw; (try dsimp only at hSw); go_simp); try with_reducible rfl)
  simp only [Act.put, List.setIfInBounds_toArray, List.set_cons_zero, List.set_cons_succ]
  refine take_list (i := 30) (v := ?_) rfl (by kernel_rfl) (by kernel_rfl) (by kernel_rfl) (fun _ _ _ h => h) (Or.inl ⟨by rfl, ?_⟩) hH ?_
  rotate_left
  · ((intro w hSw; (try dsimp only at hSw); go_simp); try with_reducible rfl)
  simp only [Act.put, List.setIfInBounds_toArray, List.set_cons_zero, List.set_cons_succ]
  refine take_list (i := 31) (v := ?_) rfl (by kernel_rfl) (by kernel_rfl) (by kernel_rfl) (fun _ _ _ h => h) (Or.inl ⟨by rfl, ?_⟩) hH ?_
  rotate_left
  · ((intro w hSw; (try dsimp only at hSw); go_simp); try with_reducible rfl)
  simp only [Act.put, List.setIfInBounds_toArray, List.set_cons_zero, List.set_cons_succ]
  refine take_list (i := 32) (v := ?_) rfl (by kernel_rfl) (by kernel_rfl) (by kernel_rfl) (fun _ _ _ h => h) (Or.inl ⟨by rfl, ?_⟩) hH ?_
  rotate_left
  · ((intro w hSw; (try dsimp only at hSw); go_simp); try with_reducible rfl)
  simp only [Act.put, List.setIfInBounds_toArray, List.set_cons_zero, List.set_cons_succ]
  refine wpAnyH_ready (rs := [33]) (by kernel_rfl) (by simp) ?_
  refine ready_list rfl (fun K hK => ?_)
  go_simp
  refine (unsynced_none a _ _ S7.out.st.dev HH.out.old).mono ?_
  rintro e w8 ⟨rfl, o8⟩
  have V8 := V7.out.kept o8 (clean_nil _)
  have B8 := B7.out.kept o8 (clean_nil _)
  have S8 := Lib.hid (S7.out.quiet o8)
  refine hK.out _ _ ⟨str_bytes B8 HSS.out, str_bytes V8 HSS.out⟩ (fun hH => ?_)
  clear hK K V8 B8 V7 B7 S7
  refine take_list (i := 34) (v := ?_) rfl (by kernel_rfl) (by kernel_rfl) (by kernel_rfl) (fun _ _ _ h => h) (Or.inl ⟨by rfl, ?_⟩) hH ?_
  rotate_left
  · ((intro w hSw; (try dsimp only at hSw); go_simp); try with_reducible rfl)
  simp only [Act.put, List.setIfInBounds_toArray, List.set_cons_zero, List.set_cons_succ]
  refine take_list (i := 35) (v := ?_) rfl (by kernel_rfl) (by kernel_rfl) (by kernel_rfl) (fun _ _ _ h => h) (Or.inl ⟨by rfl, ?_⟩) hH ?_
  rotate_left
  · ((intro w hSw; (try dsimp only at hSw); go_simp); try with_reducible rfl)
  simp only [Act.put, List.setIfInBounds_toArray, List.set_cons_zero, List.set_cons_succ]
  refine take_list (i := 36) (v := ?_) rfl (by kernel_rfl) (by kernel_rfl) (by kernel_rfl) (fun _ _ _ h => h) (Or.inl ⟨by rfl, ?_⟩) hH ?_
  rotate_left
  · ((intro w hSw; (try dsimp only at hSw); go_simp); try with_reducible rfl)
  simp only [Act.put, List.setIfInBounds_toArray, List.set_cons_zero, List.set_cons_succ]
  refine take_list (i := 37) (v := ?_) rfl (by kernel_rfl) (by kernel_rfl) (by kernel_rfl) (fun _ _ _ h => h) (Or.inl ⟨by rfl, ?_⟩) hH ?_
  rotate_left
  · ((intro w hSw; (try dsimp only at hSw); go_simp); try with_reducible rfl)
  simp only [Act.put, List.setIfInBounds_toArray, List.set_cons_zero, List.set_cons_succ]
  refine wpAnyH_done (by kernel_rfl) ?_ _
  clear hH
  go_wp2_with fail
  go_ret
  exact ⟨rfl, O1.out.trans S8.out.st.only (by simp)⟩

set_option maxRecDepth 100000 in
theorem srows_lifted (os : Os) (started : os.Started) (H : Type) (enc : TypeId × Value → H) :
    ReturnsInHanded {} Try.checked os 6 .any (Rows.slotRowsSpec.pre6 enc Try.prog Try.f6 Rows.slotRowsRow.domain false) (Rows.slotRowsSpec.post enc Try.prog Try.f6 false true false false) := by
  refine returnsInHanded_of_change (C := Try.checked) law_own started (by kernel_rfl) Try.func6
    (ChangeSpec.witness6 (enc := enc) (C := Try.checked) false ⟨#[], #[.int .i64 0, .int .i64 0, .slice none 0 0], []⟩ 8 (by kernel_rfl) (by kernel_rfl) (by kernel_rfl) (by kernel_rfl)) ?_
  intro W base args ds gs before hval0 hW hcnd _
  have hval : ∀ (j : Nat) t v, Try.f6.params[j]? = some t → args[j]? = some v → Value.okWide Try.prog W .any base t v := hval0
  have hW' := hW
  obtain ⟨p, q, hA0, hV, rfl, hfz, hnd⟩ := hW
  have hA : DataW.TrodAll enc Try.prog W 0 (fun _ => true) true Try.f6.params.toList args.toList ds p := hA0
  rw [Try.params6] at hA hval
  obtain ⟨v0, vs0, d0, ds0, p0, q0, hargs, rfl, rfl, h0, r0⟩ := trodAll_cons hA
  obtain ⟨v1, vs1, d1, ds1, p1, q1, rfl, rfl, rfl, h1, r1⟩ := trodAll_cons r0
  obtain ⟨v2, vs2, d2, ds2, p2, q2, rfl, rfl, rfl, h2, r2⟩ := trodAll_cons r1
  obtain ⟨rfl, rfl, rfl⟩ := trodAll_nil r2
  obtain rfl : args = #[v0, v1, v2] := by cases args; simp_all
  obtain ⟨rfl, rfl⟩ := trodVars_none hV
  obtain ⟨a0, rfl, rfl, rfl, w0⟩ := open_int Try.underlying3 (hval 0 3 v0 rfl rfl) h0
  obtain ⟨a1, rfl, rfl, rfl, w1⟩ := open_int Try.underlying3 (hval 1 3 v1 rfl rfl) h1
  have h2' := h2
  obtain ⟨sa2, sl2, sc2, rfl⟩ := okWide_slice Try.underlying37 (hval 2 37 v2 rfl rfl)
  obtain ⟨fuel2, hf2⟩ := h2
  obtain ⟨l2, hs2, _, hl2⟩ := open_bytes (v := .slice sa2 sl2 sc2) hf2
  have hlt2 : ∀ x ∈ p2, x.block < W.heap.size := fun x hx => hW'.lt x (by simp [hx])
  clear hA0 hval0
  refine (srows_walk a0 a1 _ l2 W w0 w1 hs2 hl2).mono fun e W' ⟨he, hg⟩ => ?_
  subst he
  exact ⟨_, rfl, post_quiet (pa := ([] ++ ([] ++ (p2 ++ [])))) (pv := []) hW' hg (fun _ _ _ => (trodAll_cons_mk (shut_bool Try.underlying4 _) trodAll_mk0)) (fun sp hsp => (trodAll_cons_mk (shut_int Try.underlying3 w0) (trodAll_cons_mk (shut_int Try.underlying3 w1) (trodAll_cons_mk (arg_stays (by kernel_rfl) (of_decide_eq_true (by kernel_rfl)) h2' hg hlt2 (fun x hx => hsp x (by simp [hx]))) trodAll_mk0)))) (fun _ _ => rfl) (by simp) (ok_one (by kernel_rfl) rfl (okWide_bool_mk Try.underlying4 _))⟩

theorem srows_over : Rows.slotRowsRow.holds Try.pinned (OpenSpec.ofChange Rows.slotRowsSpec) :=
  OpenClaim.holds_of_wide 6 Try.f6 rfl rfl rfl rfl rfl rfl rfl ⟨rfl, rfl, rfl, rfl, rfl⟩ rfl rfl rfl rfl rfl (by kernel_rfl) Try.func6 (by kernel_rfl)
    (of_decide_eq_true (by kernel_rfl)) (by unfold Func.isWrapper; first | (rw [if_pos (by decide +kernel)]; kernel_rfl) | (rw [if_neg (by decide +kernel)]; exact ⟨rfl, rfl⟩))
    (fun os started H enc _ => srows_lifted os started H enc)

/-- The statement. -/
theorem srows_holds : Rows.SlotRowsSaid :=
  srows_over
#print axioms srows_holds
end Go.Proofs.Ytdmkmjlkogkmgaa
