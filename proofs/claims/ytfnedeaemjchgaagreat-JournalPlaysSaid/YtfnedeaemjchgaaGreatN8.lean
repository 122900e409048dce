/- wire: Unbox. -/
import Derived.Test.YtfnedeaemjchgaaGreatN7
namespace Go.Proofs.YtfnedeaemjchgaaGreat
open Go.RowKit Go.Maps
set_option linter.unusedSimpArgs false
set_option linter.unusedVariables false

/-- b[i:j]. -/
theorem slice_mid {w : World} {va : Option Addr} {vc : Nat} {l : Sec} (hb : Bytes w (.slice va l.length vc) l) (hf : l.length ≤ vc) (i j : Nat) (hi : i ≤ j) (hj : j ≤ l.length) (ki kj : IntKind) :
    ∃ b, (∀ w, (Instr.sliceAt 27 (.slice va l.length vc) (some (.int ki (i : Int))) (some (.int kj (j : Int))) none).run Tryz.prog w = .ok (.slice b (j - i) (vc - i)) w) ∧ Bytes w (.slice b (j - i) (vc - i)) ((l.drop i).take (j - i)) := by
  refine ⟨if vc = i then va else va.map (·.add (i * 1)), fun w => ?_, ?_⟩
  · rw [run_sliceAt_slice w _ _ _ _ _ elem_bytes, run_slice_lh w _ _ _ _ elem_bytes ki kj (i : Int) (j : Int) (by omega) (by omega) (by omega), size_u8]
    simp [Result.andThen, sliced]
  · rw [List.take_drop, show i + (j - i) = j by omega]
    refine hb.part i j _ _ (fun g off ha hlt => ?_) hj
    rw [if_neg (by omega), ha, Option.map_some, Nat.mul_one, Addr.add_lit]

def UnboxPost (w : World) (l : Sec) (e : Ending) (w' : World) : Prop :=
  (unbox l = none → e = .returned (.tuple #[.slice none 0 0, err 4])) ∧
  (∀ d, unbox l = some d → ∃ a c, e = .returned (.tuple #[.slice a d.length c, .nilIface]) ∧ Own w' w.heap.size (.slice a d.length c) d) ∧
  Only [] w w'
theorem UnboxPost.none {w w' : World} {l : Sec} {v : Value} (h : unbox l = none) (hv : v = .tuple #[.slice none 0 0, err 4]) (ho : Only [] w w') : UnboxPost w l (.returned v) w' :=
  ⟨(fun _ => by rw [hv]), (fun d hd => by rw [h] at hd; cases hd), ho⟩

set_option maxRecDepth 100000 in
theorem Unbox_size (v : Value) (l : Sec) (w : World) (hv : Bytes w v l) (h : l.length < 6 ∨ 65536 < l.length) (hl : l.length ≤ 17592186044416) :
    Calls Tryz.prog 88 #[v] w (UnboxPost w l) := by
  have HU : Hid (unbox l = none) := Lib.hid (by unfold unbox; rw [if_pos h])
  obtain ⟨va, vc, rfl, -⟩ := id hv
  clear hv
  by_cases h0 : l.length < 6
  · have h1 : (l.length : Int) < 6 := by omega
    clear h
    go_enter Tryz.func88, Tryz.ntmps88
    go_wp2_with fail
    go_ret2
    exact UnboxPost.none HU.out rfl (Only.refl _ _)
  · have h1 : ¬ (l.length : Int) < 6 := by omega
    have h2 : (65536 : Int) < l.length := by omega
    clear h h0
    go_enter Tryz.func88, Tryz.ntmps88
    go_wp2_with fail
    go_ret2
    exact UnboxPost.none HU.out rfl (Only.refl _ _)

theorem check_parts {w : World} {v : Value} {l : Sec} (h : Parts w v [l]) (hl : l.length ≤ 65536) : Calls Tryz.prog 85 #[v] w fun e w' => e = .returned (.int .u32 (crc l : Nat)) ∧ w = w' := by
  have e5 : [l].flatten = l := by simp
  have := Check_any v [l] w h (by simp) (fun x hx => by rw [List.mem_singleton.1 hx]; omega)
  rwa [e5] at this


set_option maxRecDepth 100000 in
set_option maxHeartbeats 1600000 in
theorem Unbox_check (v : Value) (l : Sec) (w : World) (hv : Bytes w v l) (hf : Fit v) (h6 : 6 ≤ l.length) (hl : l.length ≤ 65536) (hc : val (l.take 4) ≠ crc (l.drop 4)) :
    Calls Tryz.prog 88 #[v] w (UnboxPost w l) := by
  have HU : Hid (unbox l = none) := Lib.hid (by unfold unbox; rw [if_neg (by omega), if_pos hc])
  have q : ((val (l.take 4) : Int) != (crc (l.drop 4) : Int)) = true := by simp; omega
  clear hc
  have HV := Lib.hid hv
  obtain ⟨va, vc, rfl, -⟩ := id hv
  obtain ⟨hf1, hf2⟩ := hf _ _ _ rfl
  clear hv hf
  have i6 : ¬ (l.length : Int) < 6 := by omega
  have i7 : ¬ (65536 : Int) < l.length := by omega
  obtain ⟨b4, hs4, hb4⟩ := slice_to HV.out hf1 4 (by omega) .i64
  obtain ⟨c4, hf4, hc4⟩ := slice_from HV.out hf1 4 (by omega) .i64
  have B4 := Lib.hid hb4
  have C4 := Lib.hid hc4
  have s4 : ∀ w, (Instr.sliceAt 27 (.slice va l.length vc) none (some (.int .i64 4)) none).run Tryz.prog w = .ok (.slice b4 4 vc) w := hs4
  have f4 : ∀ w, (Instr.sliceAt 27 (.slice va l.length vc) (some (.int .i64 4)) none none).run Tryz.prog w = .ok (.slice c4 (l.length - 4) (vc - 4)) w := hf4
  clear hb4 hc4 hs4 hf4
  go_enter Tryz.func88, Tryz.ntmps88
  go_wp2_with fail
  refine wp_region_held_drew (S := fun _ => True) (by kernel_rfl) trivial (fun hH => ?_)
  refine take_list (i := 0) (v := ?_) rfl (by kernel_rfl) (by kernel_rfl) (by kernel_rfl) (fun _ _ _ h => h) (Or.inl ⟨by rfl, ?_⟩) hH ?_
  rotate_left
  · ((intro w hSw; (try dsimp only at hSw); go_simp); try with_reducible rfl)
  simp only [Act.put, List.setIfInBounds_toArray, List.set_cons_zero, List.set_cons_succ]
  refine take_list (i := 1) (v := ?_) rfl (by kernel_rfl) (by kernel_rfl) (by kernel_rfl) (fun _ _ _ h => h) (Or.inl ⟨by rfl, ?_⟩) hH ?_
  rotate_left
  · ((intro w hSw; (try dsimp only at hSw); go_simp); try with_reducible rfl)
  simp only [Act.put, List.setIfInBounds_toArray, List.set_cons_zero, List.set_cons_succ]
  refine take_list (i := 3) (v := ?_) rfl (by kernel_rfl) (by kernel_rfl) (by kernel_rfl) (fun _ _ _ h => h) (Or.inl ⟨by rfl, ?_⟩) hH ?_
  rotate_left
  · ((intro w hSw; (try dsimp only at hSw); go_simp); try with_reducible rfl)
  simp only [Act.put, List.setIfInBounds_toArray, List.set_cons_zero, List.set_cons_succ]
  refine take_list (i := 4) (v := ?_) rfl (by kernel_rfl) (by kernel_rfl) (by kernel_rfl) (fun _ _ _ h => h) (Or.inl ⟨by rfl, ?_⟩) hH ?_
  rotate_left
  · ((intro w hSw; (try dsimp only at hSw); go_simp); try with_reducible rfl)
  simp only [Act.put, List.setIfInBounds_toArray, List.set_cons_zero, List.set_cons_succ]
  refine wpAnyH_ready (rs := [2, 5]) (by kernel_rfl) (by simp) ?_
  refine ready_two rfl rfl (fun K hK => ?_) (fun K hK => ?_) <;> go_simp
  ·
    refine (takeHigh_any _ _ _ (B4.out.kept ((Only.refl [] w).drew) (clean_nil _)) (by simp; omega)).mono ?_
    rintro e w1 ⟨rfl, rfl⟩
    refine hK.out _ _ trivial (fun hH => ?_)
    clear hK K
    refine wpAnyH_ready (rs := [5]) (by kernel_rfl) (by simp) ?_
    refine ready_list rfl (fun K hK => ?_)
    go_simp
    have HP1 := Lib.hid ((parts_made C4.out rfl).kept ((Only.refl [] _).drew) (clean_nil _))
    have HO1 := Lib.hid (show Only [] w (w.alloc (.cells #[.slice c4 (l.length - 4) (vc - 4)] 27)).drew from ((Only.refl [] w).alloc _).drew)
    refine hK.out _ _ trivial (fun hH => ?_)
    clear hK K
    refine wpAnyH_ready (rs := [6]) (by kernel_rfl) (by simp) ?_
    refine ready_list rfl (fun K hK => ?_)
    go_simp
    refine (check_parts HP1.out (by simp; omega)).mono ?_
    rintro e w1 ⟨rfl, rfl⟩
    refine hK.out _ _ trivial (fun hH => ?_)
    clear hK K
    refine take_list (i := 7) (v := ?_) rfl (by kernel_rfl) (by kernel_rfl) (by kernel_rfl) (fun _ _ _ h => h) (Or.inl ⟨by rfl, ?_⟩) hH ?_
    rotate_left
    · ((intro w hSw; (try dsimp only at hSw); go_simp); try with_reducible rfl)
    simp only [Act.put, List.setIfInBounds_toArray, List.set_cons_zero, List.set_cons_succ]
    refine wpAnyH_done (by kernel_rfl) ?_ _
    go_wp2
    go_ret2
    exact UnboxPost.none HU.out rfl HO1.out
  ·
    have HP1 := Lib.hid ((parts_made C4.out rfl).kept ((Only.refl [] _).drew) (clean_nil _))
    have HO1 := Lib.hid (show Only [] w (w.alloc (.cells #[.slice c4 (l.length - 4) (vc - 4)] 27)).drew from ((Only.refl [] w).alloc _).drew)
    refine hK.out _ _ trivial (fun hH => ?_)
    clear hK K
    refine wpAnyH_ready (rs := [2]) (by kernel_rfl) (by simp) ?_
    refine ready_list rfl (fun K hK => ?_)
    go_simp
    refine (takeHigh_any _ _ _ (B4.out.kept HO1.out (clean_nil _)) (by simp; omega)).mono ?_
    rintro e w1 ⟨rfl, rfl⟩
    refine hK.out _ _ trivial (fun hH => ?_)
    clear hK K
    refine wpAnyH_ready (rs := [6]) (by kernel_rfl) (by simp) ?_
    refine ready_list rfl (fun K hK => ?_)
    go_simp
    refine (check_parts HP1.out (by simp; omega)).mono ?_
    rintro e w1 ⟨rfl, rfl⟩
    refine hK.out _ _ trivial (fun hH => ?_)
    clear hK K
    refine take_list (i := 7) (v := ?_) rfl (by kernel_rfl) (by kernel_rfl) (by kernel_rfl) (fun _ _ _ h => h) (Or.inl ⟨by rfl, ?_⟩) hH ?_
    rotate_left
    · ((intro w hSw; (try dsimp only at hSw); go_simp); try with_reducible rfl)
    simp only [Act.put, List.setIfInBounds_toArray, List.set_cons_zero, List.set_cons_succ]
    refine wpAnyH_done (by kernel_rfl) ?_ _
    go_wp2
    go_ret2
    exact UnboxPost.none HU.out rfl HO1.out

set_option maxRecDepth 100000 in
set_option maxHeartbeats 1600000 in
theorem Unbox_big (v : Value) (l : Sec) (w : World) (hv : Bytes w v l) (hf : Fit v) (h6 : 6 ≤ l.length) (hl : l.length ≤ 65536) (hc : val (l.take 4) = crc (l.drop 4)) (hn : l.length - 6 < val ((l.drop 4).take 2)) :
    Calls Tryz.prog 88 #[v] w (UnboxPost w l) := by
  have HU : Hid (unbox l = none) := Lib.hid (by unfold unbox; rw [if_neg (by omega), if_neg (by simpa using hc), if_pos hn])
  have HV := Lib.hid hv
  obtain ⟨va, vc, rfl, -⟩ := id hv
  obtain ⟨hf1, hf2⟩ := hf _ _ _ rfl
  clear hv hf
  have i6 : ¬ (l.length : Int) < 6 := by omega
  have i7 : ¬ (65536 : Int) < l.length := by omega
  obtain ⟨b4, hs4, hb4⟩ := slice_to HV.out hf1 4 (by omega) .i64
  obtain ⟨c4, hf4, hc4⟩ := slice_from HV.out hf1 4 (by omega) .i64
  have B4 := Lib.hid hb4
  have C4 := Lib.hid hc4
  have s4 : ∀ w, (Instr.sliceAt 27 (.slice va l.length vc) none (some (.int .i64 4)) none).run Tryz.prog w = .ok (.slice b4 4 vc) w := hs4
  have f4 : ∀ w, (Instr.sliceAt 27 (.slice va l.length vc) (some (.int .i64 4)) none none).run Tryz.prog w = .ok (.slice c4 (l.length - 4) (vc - 4)) w := hf4
  clear hb4 hc4 hs4 hf4
  have q : ((val (l.take 4) : Int) != (crc (l.drop 4) : Int)) = false := by simp; omega
  obtain ⟨d4, hm4, hd4⟩ := slice_mid HV.out hf1 4 6 (by omega) h6 .i64 .i64
  obtain ⟨b6, hs6, hb6⟩ := slice_from HV.out hf1 6 (by omega) .i64
  have D4 : Hid (Bytes w (.slice d4 2 (vc - 4)) ((l.drop 4).take 2)) := Lib.hid hd4
  have m4 : ∀ w, (Instr.sliceAt 27 (.slice va l.length vc) (some (.int .i64 4)) (some (.int .i64 6)) none).run Tryz.prog w = .ok (.slice d4 2 (vc - 4)) w := hm4
  have f6 : ∀ w, (Instr.sliceAt 27 (.slice va l.length vc) (some (.int .i64 6)) none none).run Tryz.prog w = .ok (.slice b6 (l.length - 6) (vc - 6)) w := hs6
  have hfm : l.length - 6 ≤ vc - 6 := by omega
  have hml : l.length - 6 ≤ 65530 := by omega
  have hvl : val ((l.drop 4).take 2) < 65536 := val_lt2 (by simp; omega)
  have h2l : ((l.drop 4).take 2).length ≤ 4 := by simp; omega
  have hv4 := crc_lt (l.drop 4)
  rw [← hc] at hv4
  have e1 : l.length - 6 = (l.drop 6).length := List.length_drop.symm
  rw [e1] at f6 hfm hml hb6 hn
  generalize l.drop 6 = m at *
  generalize vc - 6 = mc at *
  have B6 := Lib.hid hb6
  clear hd4 hb6 hm4 hs6 e1 hc
  go_enter Tryz.func88, Tryz.ntmps88
  go_wp2_with fail
  refine wp_region_held_drew (S := fun _ => True) (by kernel_rfl) trivial (fun hH => ?_)
  refine take_list (i := 0) (v := ?_) rfl (by kernel_rfl) (by kernel_rfl) (by kernel_rfl) (fun _ _ _ h => h) (Or.inl ⟨by rfl, ?_⟩) hH ?_
  rotate_left
  · ((intro w hSw; (try dsimp only at hSw); go_simp); try with_reducible rfl)
  simp only [Act.put, List.setIfInBounds_toArray, List.set_cons_zero, List.set_cons_succ]
  refine take_list (i := 1) (v := ?_) rfl (by kernel_rfl) (by kernel_rfl) (by kernel_rfl) (fun _ _ _ h => h) (Or.inl ⟨by rfl, ?_⟩) hH ?_
  rotate_left
  · ((intro w hSw; (try dsimp only at hSw); go_simp); try with_reducible rfl)
  simp only [Act.put, List.setIfInBounds_toArray, List.set_cons_zero, List.set_cons_succ]
  refine take_list (i := 3) (v := ?_) rfl (by kernel_rfl) (by kernel_rfl) (by kernel_rfl) (fun _ _ _ h => h) (Or.inl ⟨by rfl, ?_⟩) hH ?_
  rotate_left
  · ((intro w hSw; (try dsimp only at hSw); go_simp); try with_reducible rfl)
  simp only [Act.put, List.setIfInBounds_toArray, List.set_cons_zero, List.set_cons_succ]
  refine take_list (i := 4) (v := ?_) rfl (by kernel_rfl) (by kernel_rfl) (by kernel_rfl) (fun _ _ _ h => h) (Or.inl ⟨by rfl, ?_⟩) hH ?_
  rotate_left
  · ((intro w hSw; (try dsimp only at hSw); go_simp); try with_reducible rfl)
  simp only [Act.put, List.setIfInBounds_toArray, List.set_cons_zero, List.set_cons_succ]
  refine wpAnyH_ready (rs := [2, 5]) (by kernel_rfl) (by simp) ?_
  refine ready_two rfl rfl (fun K hK => ?_) (fun K hK => ?_) <;> go_simp
  ·
    refine (takeHigh_any _ _ _ (B4.out.kept ((Only.refl [] w).drew) (clean_nil _)) (by simp; omega)).mono ?_
    rintro e w1 ⟨rfl, rfl⟩
    refine hK.out _ _ trivial (fun hH => ?_)
    clear hK K
    refine wpAnyH_ready (rs := [5]) (by kernel_rfl) (by simp) ?_
    refine ready_list rfl (fun K hK => ?_)
    go_simp
    have HP1 := Lib.hid ((parts_made C4.out rfl).kept ((Only.refl [] _).drew) (clean_nil _))
    have HO1 := Lib.hid (show Only [] w (w.alloc (.cells #[.slice c4 (l.length - 4) (vc - 4)] 27)).drew from ((Only.refl [] w).alloc _).drew)
    refine hK.out _ _ trivial (fun hH => ?_)
    clear hK K
    refine wpAnyH_ready (rs := [6]) (by kernel_rfl) (by simp) ?_
    refine ready_list rfl (fun K hK => ?_)
    go_simp
    refine (check_parts HP1.out (by simp; omega)).mono ?_
    rintro e w1 ⟨rfl, rfl⟩
    refine hK.out _ _ trivial (fun hH => ?_)
    clear hK K
    refine take_list (i := 7) (v := ?_) rfl (by kernel_rfl) (by kernel_rfl) (by kernel_rfl) (fun _ _ _ h => h) (Or.inl ⟨by rfl, ?_⟩) hH ?_
    rotate_left
    · ((intro w hSw; (try dsimp only at hSw); go_simp); try with_reducible rfl)
    simp only [Act.put, List.setIfInBounds_toArray, List.set_cons_zero, List.set_cons_succ]
    refine wpAnyH_done (by kernel_rfl) ?_ _
    generalize (w.alloc (.cells #[.slice c4 (l.length - 4) (vc - 4)] 27)).drew = W1 at HO1 ⊢
    go_wp2_with fail
    refine wp_region_held_drew (S := fun _ => True) (by kernel_rfl) trivial (fun hH => ?_)
    refine take_list (i := 0) (v := ?_) rfl (by kernel_rfl) (by kernel_rfl) (by kernel_rfl) (fun _ _ _ h => h) (Or.inl ⟨by rfl, ?_⟩) hH ?_
    rotate_left
    · ((intro w hSw; (try dsimp only at hSw); go_simp); try with_reducible rfl)
    simp only [Act.put, List.setIfInBounds_toArray, List.set_cons_zero, List.set_cons_succ]
    refine take_list (i := 1) (v := ?_) rfl (by kernel_rfl) (by kernel_rfl) (by kernel_rfl) (fun _ _ _ h => h) (Or.inl ⟨by rfl, ?_⟩) hH ?_
    rotate_left
    · ((intro w hSw; (try dsimp only at hSw); go_simp); try with_reducible rfl)
    simp only [Act.put, List.setIfInBounds_toArray, List.set_cons_zero, List.set_cons_succ]
    refine take_list (i := 4) (v := ?_) rfl (by kernel_rfl) (by kernel_rfl) (by kernel_rfl) (fun _ _ _ h => h) (Or.inl ⟨by rfl, ?_⟩) hH ?_
    rotate_left
    · ((intro w hSw; (try dsimp only at hSw); go_simp); try with_reducible rfl)
    simp only [Act.put, List.setIfInBounds_toArray, List.set_cons_zero, List.set_cons_succ]
    refine take_list (i := 5) (v := ?_) rfl (by kernel_rfl) (by kernel_rfl) (by kernel_rfl) (fun _ _ _ h => h) (Or.inl ⟨by rfl, ?_⟩) hH ?_
    rotate_left
    · ((intro w hSw; (try dsimp only at hSw); go_simp); try with_reducible rfl)
    simp only [Act.put, List.setIfInBounds_toArray, List.set_cons_zero, List.set_cons_succ]
    refine wpAnyH_ready (rs := [2]) (by kernel_rfl) (by simp) ?_
    refine ready_list rfl (fun K hK => ?_)
    go_simp
    refine (takeHigh_any _ _ _ (D4.out.kept HO1.out.drew (clean_nil _)) h2l).mono ?_
    generalize val ((l.drop 4).take 2) = n at *
    rintro e w1 ⟨rfl, rfl⟩
    refine hK.out _ _ trivial (fun hH => ?_)
    clear hK K
    refine take_list (i := 3) (v := ?_) rfl (by kernel_rfl) (by kernel_rfl) (by kernel_rfl) (fun _ _ _ h => h) (Or.inl ⟨by rfl, ?_⟩) hH ?_
    rotate_left
    · ((intro w hSw; (try dsimp only at hSw); go_simp); try with_reducible rfl)
    simp only [Act.put, List.setIfInBounds_toArray, List.set_cons_zero, List.set_cons_succ]
    refine take_list (i := 6) (v := ?_) rfl (by kernel_rfl) (by kernel_rfl) (by kernel_rfl) (fun _ _ _ h => h) (Or.inl ⟨by rfl, ?_⟩) hH ?_
    rotate_left
    · ((intro w hSw; (try dsimp only at hSw); go_simp); try with_reducible rfl)
    simp only [Act.put, List.setIfInBounds_toArray, List.set_cons_zero, List.set_cons_succ]
    refine take_list (i := 7) (v := ?_) rfl (by kernel_rfl) (by kernel_rfl) (by kernel_rfl) (fun _ _ _ h => h) (Or.inl ⟨by rfl, ?_⟩) hH ?_
    rotate_left
    · ((intro w hSw; (try dsimp only at hSw); go_simp); try with_reducible rfl)
    simp only [Act.put, List.setIfInBounds_toArray, List.set_cons_zero, List.set_cons_succ]
    refine wpAnyH_done (by kernel_rfl) ?_ _
    have HO2 := Lib.hid HO1.out.drew
    clear HO1
    go_wp2
    go_ret2
    exact UnboxPost.none HU.out rfl HO2.out
  ·
    have HP1 := Lib.hid ((parts_made C4.out rfl).kept ((Only.refl [] _).drew) (clean_nil _))
    have HO1 := Lib.hid (show Only [] w (w.alloc (.cells #[.slice c4 (l.length - 4) (vc - 4)] 27)).drew from ((Only.refl [] w).alloc _).drew)
    refine hK.out _ _ trivial (fun hH => ?_)
    clear hK K
    refine wpAnyH_ready (rs := [2]) (by kernel_rfl) (by simp) ?_
    refine ready_list rfl (fun K hK => ?_)
    go_simp
    refine (takeHigh_any _ _ _ (B4.out.kept HO1.out (clean_nil _)) (by simp; omega)).mono ?_
    rintro e w1 ⟨rfl, rfl⟩
    refine hK.out _ _ trivial (fun hH => ?_)
    clear hK K
    refine wpAnyH_ready (rs := [6]) (by kernel_rfl) (by simp) ?_
    refine ready_list rfl (fun K hK => ?_)
    go_simp
    refine (check_parts HP1.out (by simp; omega)).mono ?_
    rintro e w1 ⟨rfl, rfl⟩
    refine hK.out _ _ trivial (fun hH => ?_)
    clear hK K
    refine take_list (i := 7) (v := ?_) rfl (by kernel_rfl) (by kernel_rfl) (by kernel_rfl) (fun _ _ _ h => h) (Or.inl ⟨by rfl, ?_⟩) hH ?_
    rotate_left
    · ((intro w hSw; (try dsimp only at hSw); go_simp); try with_reducible rfl)
    simp only [Act.put, List.setIfInBounds_toArray, List.set_cons_zero, List.set_cons_succ]
    refine wpAnyH_done (by kernel_rfl) ?_ _
    generalize (w.alloc (.cells #[.slice c4 (l.length - 4) (vc - 4)] 27)).drew = W1 at HO1 ⊢
    go_wp2_with fail
    refine wp_region_held_drew (S := fun _ => True) (by kernel_rfl) trivial (fun hH => ?_)
    refine take_list (i := 0) (v := ?_) rfl (by kernel_rfl) (by kernel_rfl) (by kernel_rfl) (fun _ _ _ h => h) (Or.inl ⟨by rfl, ?_⟩) hH ?_
    rotate_left
    · ((intro w hSw; (try dsimp only at hSw); go_simp); try with_reducible rfl)
    simp only [Act.put, List.setIfInBounds_toArray, List.set_cons_zero, List.set_cons_succ]
    refine take_list (i := 1) (v := ?_) rfl (by kernel_rfl) (by kernel_rfl) (by kernel_rfl) (fun _ _ _ h => h) (Or.inl ⟨by rfl, ?_⟩) hH ?_
    rotate_left
    · ((intro w hSw; (try dsimp only at hSw); go_simp); try with_reducible rfl)
    simp only [Act.put, List.setIfInBounds_toArray, List.set_cons_zero, List.set_cons_succ]
    refine take_list (i := 4) (v := ?_) rfl (by kernel_rfl) (by kernel_rfl) (by kernel_rfl) (fun _ _ _ h => h) (Or.inl ⟨by rfl, ?_⟩) hH ?_
    rotate_left
    · ((intro w hSw; (try dsimp only at hSw); go_simp); try with_reducible rfl)
    simp only [Act.put, List.setIfInBounds_toArray, List.set_cons_zero, List.set_cons_succ]
    refine take_list (i := 5) (v := ?_) rfl (by kernel_rfl) (by kernel_rfl) (by kernel_rfl) (fun _ _ _ h => h) (Or.inl ⟨by rfl, ?_⟩) hH ?_
    rotate_left
    · ((intro w hSw; (try dsimp only at hSw); go_simp); try with_reducible rfl)
    simp only [Act.put, List.setIfInBounds_toArray, List.set_cons_zero, List.set_cons_succ]
    refine wpAnyH_ready (rs := [2]) (by kernel_rfl) (by simp) ?_
    refine ready_list rfl (fun K hK => ?_)
    go_simp
    refine (takeHigh_any _ _ _ (D4.out.kept HO1.out.drew (clean_nil _)) h2l).mono ?_
    generalize val ((l.drop 4).take 2) = n at *
    rintro e w1 ⟨rfl, rfl⟩
    refine hK.out _ _ trivial (fun hH => ?_)
    clear hK K
    refine take_list (i := 3) (v := ?_) rfl (by kernel_rfl) (by kernel_rfl) (by kernel_rfl) (fun _ _ _ h => h) (Or.inl ⟨by rfl, ?_⟩) hH ?_
    rotate_left
    · ((intro w hSw; (try dsimp only at hSw); go_simp); try with_reducible rfl)
    simp only [Act.put, List.setIfInBounds_toArray, List.set_cons_zero, List.set_cons_succ]
    refine take_list (i := 6) (v := ?_) rfl (by kernel_rfl) (by kernel_rfl) (by kernel_rfl) (fun _ _ _ h => h) (Or.inl ⟨by rfl, ?_⟩) hH ?_
    rotate_left
    · ((intro w hSw; (try dsimp only at hSw); go_simp); try with_reducible rfl)
    simp only [Act.put, List.setIfInBounds_toArray, List.set_cons_zero, List.set_cons_succ]
    refine take_list (i := 7) (v := ?_) rfl (by kernel_rfl) (by kernel_rfl) (by kernel_rfl) (fun _ _ _ h => h) (Or.inl ⟨by rfl, ?_⟩) hH ?_
    rotate_left
    · ((intro w hSw; (try dsimp only at hSw); go_simp); try with_reducible rfl)
    simp only [Act.put, List.setIfInBounds_toArray, List.set_cons_zero, List.set_cons_succ]
    refine wpAnyH_done (by kernel_rfl) ?_ _
    have HO2 := Lib.hid HO1.out.drew
    clear HO1
    go_wp2
    go_ret2
    exact UnboxPost.none HU.out rfl HO2.out
set_option maxRecDepth 100000 in
set_option maxHeartbeats 1600000 in
theorem Unbox_dirt (v : Value) (l : Sec) (w : World) (hv : Bytes w v l) (hf : Fit v) (h6 : 6 ≤ l.length) (hl : l.length ≤ 65536) (hc : val (l.take 4) = crc (l.drop 4)) (hn : val ((l.drop 4).take 2) ≤ l.length - 6)
    (hb : isBlank ((l.drop 6).drop (val ((l.drop 4).take 2))) = false) : Calls Tryz.prog 88 #[v] w (UnboxPost w l) := by
  have HU : Hid (unbox l = none) := Lib.hid (by unfold unbox; rw [if_neg (by omega), if_neg (by simpa using hc), if_neg (by omega), if_pos hb])
  have HV := Lib.hid hv
  obtain ⟨va, vc, rfl, -⟩ := id hv
  obtain ⟨hf1, hf2⟩ := hf _ _ _ rfl
  clear hv hf
  have i6 : ¬ (l.length : Int) < 6 := by omega
  have i7 : ¬ (65536 : Int) < l.length := by omega
  obtain ⟨b4, hs4, hb4⟩ := slice_to HV.out hf1 4 (by omega) .i64
  obtain ⟨c4, hf4, hc4⟩ := slice_from HV.out hf1 4 (by omega) .i64
  have B4 := Lib.hid hb4
  have C4 := Lib.hid hc4
  have s4 : ∀ w, (Instr.sliceAt 27 (.slice va l.length vc) none (some (.int .i64 4)) none).run Tryz.prog w = .ok (.slice b4 4 vc) w := hs4
  have f4 : ∀ w, (Instr.sliceAt 27 (.slice va l.length vc) (some (.int .i64 4)) none none).run Tryz.prog w = .ok (.slice c4 (l.length - 4) (vc - 4)) w := hf4
  clear hb4 hc4 hs4 hf4
  have q : ((val (l.take 4) : Int) != (crc (l.drop 4) : Int)) = false := by simp; omega
  obtain ⟨d4, hm4, hd4⟩ := slice_mid HV.out hf1 4 6 (by omega) h6 .i64 .i64
  obtain ⟨b6, hs6, hb6⟩ := slice_from HV.out hf1 6 (by omega) .i64
  have D4 : Hid (Bytes w (.slice d4 2 (vc - 4)) ((l.drop 4).take 2)) := Lib.hid hd4
  have m4 : ∀ w, (Instr.sliceAt 27 (.slice va l.length vc) (some (.int .i64 4)) (some (.int .i64 6)) none).run Tryz.prog w = .ok (.slice d4 2 (vc - 4)) w := hm4
  have f6 : ∀ w, (Instr.sliceAt 27 (.slice va l.length vc) (some (.int .i64 6)) none none).run Tryz.prog w = .ok (.slice b6 (l.length - 6) (vc - 6)) w := hs6
  have hfm : l.length - 6 ≤ vc - 6 := by omega
  have hml : l.length - 6 ≤ 65530 := by omega
  have hvl : val ((l.drop 4).take 2) < 65536 := val_lt2 (by simp; omega)
  have h2l : ((l.drop 4).take 2).length ≤ 4 := by simp; omega
  have hv4 := crc_lt (l.drop 4)
  rw [← hc] at hv4
  have e1 : l.length - 6 = (l.drop 6).length := List.length_drop.symm
  rw [e1] at f6 hfm hml hb6 hn
  generalize l.drop 6 = m at *
  generalize vc - 6 = mc at *
  have B6 := Lib.hid hb6
  clear hd4 hb6 hm4 hs6 e1 hc
  have HN := Lib.hid hb
  clear hb
  go_enter Tryz.func88, Tryz.ntmps88
  go_wp2_with fail
  refine wp_region_held_drew (S := fun _ => True) (by kernel_rfl) trivial (fun hH => ?_)
  refine take_list (i := 0) (v := ?_) rfl (by kernel_rfl) (by kernel_rfl) (by kernel_rfl) (fun _ _ _ h => h) (Or.inl ⟨by rfl, ?_⟩) hH ?_
  rotate_left
  · ((intro w hSw; (try dsimp only at hSw); go_simp); try with_reducible rfl)
  simp only [Act.put, List.setIfInBounds_toArray, List.set_cons_zero, List.set_cons_succ]
  refine take_list (i := 1) (v := ?_) rfl (by kernel_rfl) (by kernel_rfl) (by kernel_rfl) (fun _ _ _ h => h) (Or.inl ⟨by rfl, ?_⟩) hH ?_
  rotate_left
  · ((intro w hSw; (try dsimp only at hSw); go_simp); try with_reducible rfl)
  simp only [Act.put, List.setIfInBounds_toArray, List.set_cons_zero, List.set_cons_succ]
  refine take_list (i := 3) (v := ?_) rfl (by kernel_rfl) (by kernel_rfl) (by kernel_rfl) (fun _ _ _ h => h) (Or.inl ⟨by rfl, ?_⟩) hH ?_
  rotate_left
  · ((intro w hSw; (try dsimp only at hSw); go_simp); try with_reducible rfl)
  simp only [Act.put, List.setIfInBounds_toArray, List.set_cons_zero, List.set_cons_succ]
  refine take_list (i := 4) (v := ?_) rfl (by kernel_rfl) (by kernel_rfl) (by kernel_rfl) (fun _ _ _ h => h) (Or.inl ⟨by rfl, ?_⟩) hH ?_
  rotate_left
  · ((intro w hSw; (try dsimp only at hSw); go_simp); try with_reducible rfl)
  simp only [Act.put, List.setIfInBounds_toArray, List.set_cons_zero, List.set_cons_succ]
  refine wpAnyH_ready (rs := [2, 5]) (by kernel_rfl) (by simp) ?_
  refine ready_two rfl rfl (fun K hK => ?_) (fun K hK => ?_) <;> go_simp
  ·
    refine (takeHigh_any _ _ _ (B4.out.kept ((Only.refl [] w).drew) (clean_nil _)) (by simp; omega)).mono ?_
    rintro e w1 ⟨rfl, rfl⟩
    refine hK.out _ _ trivial (fun hH => ?_)
    clear hK K
    refine wpAnyH_ready (rs := [5]) (by kernel_rfl) (by simp) ?_
    refine ready_list rfl (fun K hK => ?_)
    go_simp
    have HP1 := Lib.hid ((parts_made C4.out rfl).kept ((Only.refl [] _).drew) (clean_nil _))
    have HO1 := Lib.hid (show Only [] w (w.alloc (.cells #[.slice c4 (l.length - 4) (vc - 4)] 27)).drew from ((Only.refl [] w).alloc _).drew)
    refine hK.out _ _ trivial (fun hH => ?_)
    clear hK K
    refine wpAnyH_ready (rs := [6]) (by kernel_rfl) (by simp) ?_
    refine ready_list rfl (fun K hK => ?_)
    go_simp
    refine (check_parts HP1.out (by simp; omega)).mono ?_
    rintro e w1 ⟨rfl, rfl⟩
    refine hK.out _ _ trivial (fun hH => ?_)
    clear hK K
    refine take_list (i := 7) (v := ?_) rfl (by kernel_rfl) (by kernel_rfl) (by kernel_rfl) (fun _ _ _ h => h) (Or.inl ⟨by rfl, ?_⟩) hH ?_
    rotate_left
    · ((intro w hSw; (try dsimp only at hSw); go_simp); try with_reducible rfl)
    simp only [Act.put, List.setIfInBounds_toArray, List.set_cons_zero, List.set_cons_succ]
    refine wpAnyH_done (by kernel_rfl) ?_ _
    generalize (w.alloc (.cells #[.slice c4 (l.length - 4) (vc - 4)] 27)).drew = W1 at HO1 ⊢
    go_wp2_with fail
    refine wp_region_held_drew (S := fun _ => True) (by kernel_rfl) trivial (fun hH => ?_)
    refine take_list (i := 0) (v := ?_) rfl (by kernel_rfl) (by kernel_rfl) (by kernel_rfl) (fun _ _ _ h => h) (Or.inl ⟨by rfl, ?_⟩) hH ?_
    rotate_left
    · ((intro w hSw; (try dsimp only at hSw); go_simp); try with_reducible rfl)
    simp only [Act.put, List.setIfInBounds_toArray, List.set_cons_zero, List.set_cons_succ]
    refine take_list (i := 1) (v := ?_) rfl (by kernel_rfl) (by kernel_rfl) (by kernel_rfl) (fun _ _ _ h => h) (Or.inl ⟨by rfl, ?_⟩) hH ?_
    rotate_left
    · ((intro w hSw; (try dsimp only at hSw); go_simp); try with_reducible rfl)
    simp only [Act.put, List.setIfInBounds_toArray, List.set_cons_zero, List.set_cons_succ]
    refine take_list (i := 4) (v := ?_) rfl (by kernel_rfl) (by kernel_rfl) (by kernel_rfl) (fun _ _ _ h => h) (Or.inl ⟨by rfl, ?_⟩) hH ?_
    rotate_left
    · ((intro w hSw; (try dsimp only at hSw); go_simp); try with_reducible rfl)
    simp only [Act.put, List.setIfInBounds_toArray, List.set_cons_zero, List.set_cons_succ]
    refine take_list (i := 5) (v := ?_) rfl (by kernel_rfl) (by kernel_rfl) (by kernel_rfl) (fun _ _ _ h => h) (Or.inl ⟨by rfl, ?_⟩) hH ?_
    rotate_left
    · ((intro w hSw; (try dsimp only at hSw); go_simp); try with_reducible rfl)
    simp only [Act.put, List.setIfInBounds_toArray, List.set_cons_zero, List.set_cons_succ]
    refine wpAnyH_ready (rs := [2]) (by kernel_rfl) (by simp) ?_
    refine ready_list rfl (fun K hK => ?_)
    go_simp
    refine (takeHigh_any _ _ _ (D4.out.kept HO1.out.drew (clean_nil _)) h2l).mono ?_
    generalize val ((l.drop 4).take 2) = n at *
    rintro e w1 ⟨rfl, rfl⟩
    refine hK.out _ _ trivial (fun hH => ?_)
    clear hK K
    refine take_list (i := 3) (v := ?_) rfl (by kernel_rfl) (by kernel_rfl) (by kernel_rfl) (fun _ _ _ h => h) (Or.inl ⟨by rfl, ?_⟩) hH ?_
    rotate_left
    · ((intro w hSw; (try dsimp only at hSw); go_simp); try with_reducible rfl)
    simp only [Act.put, List.setIfInBounds_toArray, List.set_cons_zero, List.set_cons_succ]
    refine take_list (i := 6) (v := ?_) rfl (by kernel_rfl) (by kernel_rfl) (by kernel_rfl) (fun _ _ _ h => h) (Or.inl ⟨by rfl, ?_⟩) hH ?_
    rotate_left
    · ((intro w hSw; (try dsimp only at hSw); go_simp); try with_reducible rfl)
    simp only [Act.put, List.setIfInBounds_toArray, List.set_cons_zero, List.set_cons_succ]
    refine take_list (i := 7) (v := ?_) rfl (by kernel_rfl) (by kernel_rfl) (by kernel_rfl) (fun _ _ _ h => h) (Or.inl ⟨by rfl, ?_⟩) hH ?_
    rotate_left
    · ((intro w hSw; (try dsimp only at hSw); go_simp); try with_reducible rfl)
    simp only [Act.put, List.setIfInBounds_toArray, List.set_cons_zero, List.set_cons_succ]
    refine wpAnyH_done (by kernel_rfl) ?_ _
    have HO2 := Lib.hid HO1.out.drew
    clear HO1
    obtain ⟨b1, hs1, hb1⟩ := slice_from B6.out hfm n (by omega) .i64
    have B1 := Lib.hid hb1
    clear hb1
    go_wp2_with fail
    refine (blank_any _ _ _ (B1.out.kept HO2.out (clean_nil _)) (by simp; omega)).mono ?_
    rw [HN.out]
    rintro e w1 ⟨rfl, rfl⟩
    clear hs1
    go_wp2_with fail
    go_ret2
    exact UnboxPost.none HU.out rfl HO2.out
  ·
    have HP1 := Lib.hid ((parts_made C4.out rfl).kept ((Only.refl [] _).drew) (clean_nil _))
    have HO1 := Lib.hid (show Only [] w (w.alloc (.cells #[.slice c4 (l.length - 4) (vc - 4)] 27)).drew from ((Only.refl [] w).alloc _).drew)
    refine hK.out _ _ trivial (fun hH => ?_)
    clear hK K
    refine wpAnyH_ready (rs := [2]) (by kernel_rfl) (by simp) ?_
    refine ready_list rfl (fun K hK => ?_)
    go_simp
    refine (takeHigh_any _ _ _ (B4.out.kept HO1.out (clean_nil _)) (by simp; omega)).mono ?_
    rintro e w1 ⟨rfl, rfl⟩
    refine hK.out _ _ trivial (fun hH => ?_)
    clear hK K
    refine wpAnyH_ready (rs := [6]) (by kernel_rfl) (by simp) ?_
    refine ready_list rfl (fun K hK => ?_)
    go_simp
    refine (check_parts HP1.out (by simp; omega)).mono ?_
    rintro e w1 ⟨rfl, rfl⟩
    refine hK.out _ _ trivial (fun hH => ?_)
    clear hK K
    refine take_list (i := 7) (v := ?_) rfl (by kernel_rfl) (by kernel_rfl) (by kernel_rfl) (fun _ _ _ h => h) (Or.inl ⟨by rfl, ?_⟩) hH ?_
    rotate_left
    · ((intro w hSw; (try dsimp only at hSw); go_simp); try with_reducible rfl)
    simp only [Act.put, List.setIfInBounds_toArray, List.set_cons_zero, List.set_cons_succ]
    refine wpAnyH_done (by kernel_rfl) ?_ _
    generalize (w.alloc (.cells #[.slice c4 (l.length - 4) (vc - 4)] 27)).drew = W1 at HO1 ⊢
    go_wp2_with fail
    refine wp_region_held_drew (S := fun _ => True) (by kernel_rfl) trivial (fun hH => ?_)
    refine take_list (i := 0) (v := ?_) rfl (by kernel_rfl) (by kernel_rfl) (by kernel_rfl) (fun _ _ _ h => h) (Or.inl ⟨by rfl, ?_⟩) hH ?_
    rotate_left
    · ((intro w hSw; (try dsimp only at hSw); go_simp); try with_reducible rfl)
    simp only [Act.put, List.setIfInBounds_toArray, List.set_cons_zero, List.set_cons_succ]
    refine take_list (i := 1) (v := ?_) rfl (by kernel_rfl) (by kernel_rfl) (by kernel_rfl) (fun _ _ _ h => h) (Or.inl ⟨by rfl, ?_⟩) hH ?_
    rotate_left
    · ((intro w hSw; (try dsimp only at hSw); go_simp); try with_reducible rfl)
    simp only [Act.put, List.setIfInBounds_toArray, List.set_cons_zero, List.set_cons_succ]
    refine take_list (i := 4) (v := ?_) rfl (by kernel_rfl) (by kernel_rfl) (by kernel_rfl) (fun _ _ _ h => h) (Or.inl ⟨by rfl, ?_⟩) hH ?_
    rotate_left
    · ((intro w hSw; (try dsimp only at hSw); go_simp); try with_reducible rfl)
    simp only [Act.put, List.setIfInBounds_toArray, List.set_cons_zero, List.set_cons_succ]
    refine take_list (i := 5) (v := ?_) rfl (by kernel_rfl) (by kernel_rfl) (by kernel_rfl) (fun _ _ _ h => h) (Or.inl ⟨by rfl, ?_⟩) hH ?_
    rotate_left
    · ((intro w hSw; (try dsimp only at hSw); go_simp); try with_reducible rfl)
    simp only [Act.put, List.setIfInBounds_toArray, List.set_cons_zero, List.set_cons_succ]
    refine wpAnyH_ready (rs := [2]) (by kernel_rfl) (by simp) ?_
    refine ready_list rfl (fun K hK => ?_)
    go_simp
    refine (takeHigh_any _ _ _ (D4.out.kept HO1.out.drew (clean_nil _)) h2l).mono ?_
    generalize val ((l.drop 4).take 2) = n at *
    rintro e w1 ⟨rfl, rfl⟩
    refine hK.out _ _ trivial (fun hH => ?_)
    clear hK K
    refine take_list (i := 3) (v := ?_) rfl (by kernel_rfl) (by kernel_rfl) (by kernel_rfl) (fun _ _ _ h => h) (Or.inl ⟨by rfl, ?_⟩) hH ?_
    rotate_left
    · ((intro w hSw; (try dsimp only at hSw); go_simp); try with_reducible rfl)
    simp only [Act.put, List.setIfInBounds_toArray, List.set_cons_zero, List.set_cons_succ]
    refine take_list (i := 6) (v := ?_) rfl (by kernel_rfl) (by kernel_rfl) (by kernel_rfl) (fun _ _ _ h => h) (Or.inl ⟨by rfl, ?_⟩) hH ?_
    rotate_left
    · ((intro w hSw; (try dsimp only at hSw); go_simp); try with_reducible rfl)
    simp only [Act.put, List.setIfInBounds_toArray, List.set_cons_zero, List.set_cons_succ]
    refine take_list (i := 7) (v := ?_) rfl (by kernel_rfl) (by kernel_rfl) (by kernel_rfl) (fun _ _ _ h => h) (Or.inl ⟨by rfl, ?_⟩) hH ?_
    rotate_left
    · ((intro w hSw; (try dsimp only at hSw); go_simp); try with_reducible rfl)
    simp only [Act.put, List.setIfInBounds_toArray, List.set_cons_zero, List.set_cons_succ]
    refine wpAnyH_done (by kernel_rfl) ?_ _
    have HO2 := Lib.hid HO1.out.drew
    clear HO1
    obtain ⟨b1, hs1, hb1⟩ := slice_from B6.out hfm n (by omega) .i64
    have B1 := Lib.hid hb1
    clear hb1
    go_wp2_with fail
    refine (blank_any _ _ _ (B1.out.kept HO2.out (clean_nil _)) (by simp; omega)).mono ?_
    rw [HN.out]
    rintro e w1 ⟨rfl, rfl⟩
    clear hs1
    go_wp2_with fail
    go_ret2
    exact UnboxPost.none HU.out rfl HO2.out
set_option maxRecDepth 100000 in
set_option maxHeartbeats 1600000 in
theorem Unbox_yes (v : Value) (l : Sec) (w : World) (hv : Bytes w v l) (hf : Fit v) (h6 : 6 ≤ l.length) (hl : l.length ≤ 65536) (hc : val (l.take 4) = crc (l.drop 4)) (hn : val ((l.drop 4).take 2) ≤ l.length - 6)
    (hb : isBlank ((l.drop 6).drop (val ((l.drop 4).take 2))) = true) : Calls Tryz.prog 88 #[v] w (UnboxPost w l) := by
  have HU : Hid (unbox l = some ((l.drop 6).take (val ((l.drop 4).take 2)))) := Lib.hid (by unfold unbox; rw [if_neg (by omega), if_neg (by simpa using hc), if_neg (by omega), if_neg (by rw [hb]; exact Bool.noConfusion)])
  have HV := Lib.hid hv
  obtain ⟨va, vc, rfl, -⟩ := id hv
  obtain ⟨hf1, hf2⟩ := hf _ _ _ rfl
  clear hv hf
  have i6 : ¬ (l.length : Int) < 6 := by omega
  have i7 : ¬ (65536 : Int) < l.length := by omega
  obtain ⟨b4, hs4, hb4⟩ := slice_to HV.out hf1 4 (by omega) .i64
  obtain ⟨c4, hf4, hc4⟩ := slice_from HV.out hf1 4 (by omega) .i64
  have B4 := Lib.hid hb4
  have C4 := Lib.hid hc4
  have s4 : ∀ w, (Instr.sliceAt 27 (.slice va l.length vc) none (some (.int .i64 4)) none).run Tryz.prog w = .ok (.slice b4 4 vc) w := hs4
  have f4 : ∀ w, (Instr.sliceAt 27 (.slice va l.length vc) (some (.int .i64 4)) none none).run Tryz.prog w = .ok (.slice c4 (l.length - 4) (vc - 4)) w := hf4
  clear hb4 hc4 hs4 hf4
  have q : ((val (l.take 4) : Int) != (crc (l.drop 4) : Int)) = false := by simp; omega
  obtain ⟨d4, hm4, hd4⟩ := slice_mid HV.out hf1 4 6 (by omega) h6 .i64 .i64
  obtain ⟨b6, hs6, hb6⟩ := slice_from HV.out hf1 6 (by omega) .i64
  have D4 : Hid (Bytes w (.slice d4 2 (vc - 4)) ((l.drop 4).take 2)) := Lib.hid hd4
  have m4 : ∀ w, (Instr.sliceAt 27 (.slice va l.length vc) (some (.int .i64 4)) (some (.int .i64 6)) none).run Tryz.prog w = .ok (.slice d4 2 (vc - 4)) w := hm4
  have f6 : ∀ w, (Instr.sliceAt 27 (.slice va l.length vc) (some (.int .i64 6)) none none).run Tryz.prog w = .ok (.slice b6 (l.length - 6) (vc - 6)) w := hs6
  have hfm : l.length - 6 ≤ vc - 6 := by omega
  have hml : l.length - 6 ≤ 65530 := by omega
  have hvl : val ((l.drop 4).take 2) < 65536 := val_lt2 (by simp; omega)
  have h2l : ((l.drop 4).take 2).length ≤ 4 := by simp; omega
  have hv4 := crc_lt (l.drop 4)
  rw [← hc] at hv4
  have e1 : l.length - 6 = (l.drop 6).length := List.length_drop.symm
  rw [e1] at f6 hfm hml hb6 hn
  generalize l.drop 6 = m at *
  generalize vc - 6 = mc at *
  have B6 := Lib.hid hb6
  clear hd4 hb6 hm4 hs6 e1 hc
  have HN := Lib.hid hb
  clear hb
  go_enter Tryz.func88, Tryz.ntmps88
  go_wp2_with fail
  refine wp_region_held_drew (S := fun _ => True) (by kernel_rfl) trivial (fun hH => ?_)
  refine take_list (i := 0) (v := ?_) rfl (by kernel_rfl) (by kernel_rfl) (by kernel_rfl) (fun _ _ _ h => h) (Or.inl ⟨by rfl, ?_⟩) hH ?_
  rotate_left
  · ((intro w hSw; (try dsimp only at hSw); go_simp); try with_reducible rfl)
  simp only [Act.put, List.setIfInBounds_toArray, List.set_cons_zero, List.set_cons_succ]
  refine take_list (i := 1) (v := ?_) rfl (by kernel_rfl) (by kernel_rfl) (by kernel_rfl) (fun _ _ _ h => h) (Or.inl ⟨by rfl, ?_⟩) hH ?_
  rotate_left
  · ((intro w hSw; (try dsimp only at hSw); go_simp); try with_reducible rfl)
  simp only [Act.put, List.setIfInBounds_toArray, List.set_cons_zero, List.set_cons_succ]
  refine take_list (i := 3) (v := ?_) rfl (by kernel_rfl) (by kernel_rfl) (by kernel_rfl) (fun _ _ _ h => h) (Or.inl ⟨by rfl, ?_⟩) hH ?_
  rotate_left
  · ((intro w hSw; (try dsimp only at hSw); go_simp); try with_reducible rfl)
  simp only [Act.put, List.setIfInBounds_toArray, List.set_cons_zero, List.set_cons_succ]
  refine take_list (i := 4) (v := ?_) rfl (by kernel_rfl) (by kernel_rfl) (by kernel_rfl) (fun _ _ _ h => h) (Or.inl ⟨by rfl, ?_⟩) hH ?_
  rotate_left
  · ((intro w hSw; (try dsimp only at hSw); go_simp); try with_reducible rfl)
  simp only [Act.put, List.setIfInBounds_toArray, List.set_cons_zero, List.set_cons_succ]
  refine wpAnyH_ready (rs := [2, 5]) (by kernel_rfl) (by simp) ?_
  refine ready_two rfl rfl (fun K hK => ?_) (fun K hK => ?_) <;> go_simp
  ·
    refine (takeHigh_any _ _ _ (B4.out.kept ((Only.refl [] w).drew) (clean_nil _)) (by simp; omega)).mono ?_
    rintro e w1 ⟨rfl, rfl⟩
    refine hK.out _ _ trivial (fun hH => ?_)
    clear hK K
    refine wpAnyH_ready (rs := [5]) (by kernel_rfl) (by simp) ?_
    refine ready_list rfl (fun K hK => ?_)
    go_simp
    have HP1 := Lib.hid ((parts_made C4.out rfl).kept ((Only.refl [] _).drew) (clean_nil _))
    have HO1 := Lib.hid (show Only [] w (w.alloc (.cells #[.slice c4 (l.length - 4) (vc - 4)] 27)).drew from ((Only.refl [] w).alloc _).drew)
    refine hK.out _ _ trivial (fun hH => ?_)
    clear hK K
    refine wpAnyH_ready (rs := [6]) (by kernel_rfl) (by simp) ?_
    refine ready_list rfl (fun K hK => ?_)
    go_simp
    refine (check_parts HP1.out (by simp; omega)).mono ?_
    rintro e w1 ⟨rfl, rfl⟩
    refine hK.out _ _ trivial (fun hH => ?_)
    clear hK K
    refine take_list (i := 7) (v := ?_) rfl (by kernel_rfl) (by kernel_rfl) (by kernel_rfl) (fun _ _ _ h => h) (Or.inl ⟨by rfl, ?_⟩) hH ?_
    rotate_left
    · ((intro w hSw; (try dsimp only at hSw); go_simp); try with_reducible rfl)
    simp only [Act.put, List.setIfInBounds_toArray, List.set_cons_zero, List.set_cons_succ]
    refine wpAnyH_done (by kernel_rfl) ?_ _
    generalize (w.alloc (.cells #[.slice c4 (l.length - 4) (vc - 4)] 27)).drew = W1 at HO1 ⊢
    go_wp2_with fail
    refine wp_region_held_drew (S := fun _ => True) (by kernel_rfl) trivial (fun hH => ?_)
    refine take_list (i := 0) (v := ?_) rfl (by kernel_rfl) (by kernel_rfl) (by kernel_rfl) (fun _ _ _ h => h) (Or.inl ⟨by rfl, ?_⟩) hH ?_
    rotate_left
    · ((intro w hSw; (try dsimp only at hSw); go_simp); try with_reducible rfl)
    simp only [Act.put, List.setIfInBounds_toArray, List.set_cons_zero, List.set_cons_succ]
    refine take_list (i := 1) (v := ?_) rfl (by kernel_rfl) (by kernel_rfl) (by kernel_rfl) (fun _ _ _ h => h) (Or.inl ⟨by rfl, ?_⟩) hH ?_
    rotate_left
    · ((intro w hSw; (try dsimp only at hSw); go_simp); try with_reducible rfl)
    simp only [Act.put, List.setIfInBounds_toArray, List.set_cons_zero, List.set_cons_succ]
    refine take_list (i := 4) (v := ?_) rfl (by kernel_rfl) (by kernel_rfl) (by kernel_rfl) (fun _ _ _ h => h) (Or.inl ⟨by rfl, ?_⟩) hH ?_
    rotate_left
    · ((intro w hSw; (try dsimp only at hSw); go_simp); try with_reducible rfl)
    simp only [Act.put, List.setIfInBounds_toArray, List.set_cons_zero, List.set_cons_succ]
    refine take_list (i := 5) (v := ?_) rfl (by kernel_rfl) (by kernel_rfl) (by kernel_rfl) (fun _ _ _ h => h) (Or.inl ⟨by rfl, ?_⟩) hH ?_
    rotate_left
    · ((intro w hSw; (try dsimp only at hSw); go_simp); try with_reducible rfl)
    simp only [Act.put, List.setIfInBounds_toArray, List.set_cons_zero, List.set_cons_succ]
    refine wpAnyH_ready (rs := [2]) (by kernel_rfl) (by simp) ?_
    refine ready_list rfl (fun K hK => ?_)
    go_simp
    refine (takeHigh_any _ _ _ (D4.out.kept HO1.out.drew (clean_nil _)) h2l).mono ?_
    generalize val ((l.drop 4).take 2) = n at *
    rintro e w1 ⟨rfl, rfl⟩
    refine hK.out _ _ trivial (fun hH => ?_)
    clear hK K
    refine take_list (i := 3) (v := ?_) rfl (by kernel_rfl) (by kernel_rfl) (by kernel_rfl) (fun _ _ _ h => h) (Or.inl ⟨by rfl, ?_⟩) hH ?_
    rotate_left
    · ((intro w hSw; (try dsimp only at hSw); go_simp); try with_reducible rfl)
    simp only [Act.put, List.setIfInBounds_toArray, List.set_cons_zero, List.set_cons_succ]
    refine take_list (i := 6) (v := ?_) rfl (by kernel_rfl) (by kernel_rfl) (by kernel_rfl) (fun _ _ _ h => h) (Or.inl ⟨by rfl, ?_⟩) hH ?_
    rotate_left
    · ((intro w hSw; (try dsimp only at hSw); go_simp); try with_reducible rfl)
    simp only [Act.put, List.setIfInBounds_toArray, List.set_cons_zero, List.set_cons_succ]
    refine take_list (i := 7) (v := ?_) rfl (by kernel_rfl) (by kernel_rfl) (by kernel_rfl) (fun _ _ _ h => h) (Or.inl ⟨by rfl, ?_⟩) hH ?_
    rotate_left
    · ((intro w hSw; (try dsimp only at hSw); go_simp); try with_reducible rfl)
    simp only [Act.put, List.setIfInBounds_toArray, List.set_cons_zero, List.set_cons_succ]
    refine wpAnyH_done (by kernel_rfl) ?_ _
    have HO2 := Lib.hid HO1.out.drew
    clear HO1
    obtain ⟨b1, hs1, hb1⟩ := slice_from B6.out hfm n (by omega) .i64
    have B1 := Lib.hid hb1
    clear hb1
    go_wp2_with fail
    refine (blank_any _ _ _ (B1.out.kept HO2.out (clean_nil _)) (by simp; omega)).mono ?_
    rw [HN.out]
    rintro e w1 ⟨rfl, rfl⟩
    clear hs1
    obtain ⟨b2, hs2, hb2⟩ := slice_to B6.out hfm n (by omega) .i64
    have B2 := Lib.hid hb2
    clear hb2
    go_wp2_with fail
    have e2 : (m.take n).length = n := by simp; omega
    refine (clone_any _ (m.take n) _ (B2.out.kept HO2.out (clean_nil _)) (by omega)).mono ?_
    rw [e2]
    rintro e w2 ⟨a, c, rfl, hw2, ho2⟩
    have HW := Lib.hid hw2
    have HE := Lib.hid e2
    clear hw2 hs2 e2
    go_wp2_with fail
    go_ret2
    refine ⟨(fun h => by rw [HU.out] at h; cases h), (fun d hd => ?_), HO2.out.trans ho2 (by simp)⟩
    rw [HU.out] at hd
    cases hd
    exact ⟨a, c, by rw [HE.out]; rfl, by rw [HE.out]; exact HW.out.mono HO2.out.size⟩
  ·
    have HP1 := Lib.hid ((parts_made C4.out rfl).kept ((Only.refl [] _).drew) (clean_nil _))
    have HO1 := Lib.hid (show Only [] w (w.alloc (.cells #[.slice c4 (l.length - 4) (vc - 4)] 27)).drew from ((Only.refl [] w).alloc _).drew)
    refine hK.out _ _ trivial (fun hH => ?_)
    clear hK K
    refine wpAnyH_ready (rs := [2]) (by kernel_rfl) (by simp) ?_
    refine ready_list rfl (fun K hK => ?_)
    go_simp
    refine (takeHigh_any _ _ _ (B4.out.kept HO1.out (clean_nil _)) (by simp; omega)).mono ?_
    rintro e w1 ⟨rfl, rfl⟩
    refine hK.out _ _ trivial (fun hH => ?_)
    clear hK K
    refine wpAnyH_ready (rs := [6]) (by kernel_rfl) (by simp) ?_
    refine ready_list rfl (fun K hK => ?_)
    go_simp
    refine (check_parts HP1.out (by simp; omega)).mono ?_
    rintro e w1 ⟨rfl, rfl⟩
    refine hK.out _ _ trivial (fun hH => ?_)
    clear hK K
    refine take_list (i := 7) (v := ?_) rfl (by kernel_rfl) (by kernel_rfl) (by kernel_rfl) (fun _ _ _ h => h) (Or.inl ⟨by rfl, ?_⟩) hH ?_
    rotate_left
    · ((intro w hSw; (try dsimp only at hSw); go_simp); try with_reducible rfl)
    simp only [Act.put, List.setIfInBounds_toArray, List.set_cons_zero, List.set_cons_succ]
    refine wpAnyH_done (by kernel_rfl) ?_ _
    generalize (w.alloc (.cells #[.slice c4 (l.length - 4) (vc - 4)] 27)).drew = W1 at HO1 ⊢
    go_wp2_with fail
    refine wp_region_held_drew (S := fun _ => True) (by kernel_rfl) trivial (fun hH => ?_)
    refine take_list (i := 0) (v := ?_) rfl (by kernel_rfl) (by kernel_rfl) (by kernel_rfl) (fun _ _ _ h => h) (Or.inl ⟨by rfl, ?_⟩) hH ?_
    rotate_left
    · ((intro w hSw; (try dsimp only at hSw); go_simp); try with_reducible rfl)
    simp only [Act.put, List.setIfInBounds_toArray, List.set_cons_zero, List.set_cons_succ]
    refine take_list (i := 1) (v := ?_) rfl (by kernel_rfl) (by kernel_rfl) (by kernel_rfl) (fun _ _ _ h => h) (Or.inl ⟨by rfl, ?_⟩) hH ?_
    rotate_left
    · ((intro w hSw; (try dsimp only at hSw); go_simp); try with_reducible rfl)
    simp only [Act.put, List.setIfInBounds_toArray, List.set_cons_zero, List.set_cons_succ]
    refine take_list (i := 4) (v := ?_) rfl (by kernel_rfl) (by kernel_rfl) (by kernel_rfl) (fun _ _ _ h => h) (Or.inl ⟨by rfl, ?_⟩) hH ?_
    rotate_left
    · ((intro w hSw; (try dsimp only at hSw); go_simp); try with_reducible rfl)
    simp only [Act.put, List.setIfInBounds_toArray, List.set_cons_zero, List.set_cons_succ]
    refine take_list (i := 5) (v := ?_) rfl (by kernel_rfl) (by kernel_rfl) (by kernel_rfl) (fun _ _ _ h => h) (Or.inl ⟨by rfl, ?_⟩) hH ?_
    rotate_left
    · ((intro w hSw; (try dsimp only at hSw); go_simp); try with_reducible rfl)
    simp only [Act.put, List.setIfInBounds_toArray, List.set_cons_zero, List.set_cons_succ]
    refine wpAnyH_ready (rs := [2]) (by kernel_rfl) (by simp) ?_
    refine ready_list rfl (fun K hK => ?_)
    go_simp
    refine (takeHigh_any _ _ _ (D4.out.kept HO1.out.drew (clean_nil _)) h2l).mono ?_
    generalize val ((l.drop 4).take 2) = n at *
    rintro e w1 ⟨rfl, rfl⟩
    refine hK.out _ _ trivial (fun hH => ?_)
    clear hK K
    refine take_list (i := 3) (v := ?_) rfl (by kernel_rfl) (by kernel_rfl) (by kernel_rfl) (fun _ _ _ h => h) (Or.inl ⟨by rfl, ?_⟩) hH ?_
    rotate_left
    · ((intro w hSw; (try dsimp only at hSw); go_simp); try with_reducible rfl)
    simp only [Act.put, List.setIfInBounds_toArray, List.set_cons_zero, List.set_cons_succ]
    refine take_list (i := 6) (v := ?_) rfl (by kernel_rfl) (by kernel_rfl) (by kernel_rfl) (fun _ _ _ h => h) (Or.inl ⟨by rfl, ?_⟩) hH ?_
    rotate_left
    · ((intro w hSw; (try dsimp only at hSw); go_simp); try with_reducible rfl)
    simp only [Act.put, List.setIfInBounds_toArray, List.set_cons_zero, List.set_cons_succ]
    refine take_list (i := 7) (v := ?_) rfl (by kernel_rfl) (by kernel_rfl) (by kernel_rfl) (fun _ _ _ h => h) (Or.inl ⟨by rfl, ?_⟩) hH ?_
    rotate_left
    · ((intro w hSw; (try dsimp only at hSw); go_simp); try with_reducible rfl)
    simp only [Act.put, List.setIfInBounds_toArray, List.set_cons_zero, List.set_cons_succ]
    refine wpAnyH_done (by kernel_rfl) ?_ _
    have HO2 := Lib.hid HO1.out.drew
    clear HO1
    obtain ⟨b1, hs1, hb1⟩ := slice_from B6.out hfm n (by omega) .i64
    have B1 := Lib.hid hb1
    clear hb1
    go_wp2_with fail
    refine (blank_any _ _ _ (B1.out.kept HO2.out (clean_nil _)) (by simp; omega)).mono ?_
    rw [HN.out]
    rintro e w1 ⟨rfl, rfl⟩
    clear hs1
    obtain ⟨b2, hs2, hb2⟩ := slice_to B6.out hfm n (by omega) .i64
    have B2 := Lib.hid hb2
    clear hb2
    go_wp2_with fail
    have e2 : (m.take n).length = n := by simp; omega
    refine (clone_any _ (m.take n) _ (B2.out.kept HO2.out (clean_nil _)) (by omega)).mono ?_
    rw [e2]
    rintro e w2 ⟨a, c, rfl, hw2, ho2⟩
    have HW := Lib.hid hw2
    have HE := Lib.hid e2
    clear hw2 hs2 e2
    go_wp2_with fail
    go_ret2
    refine ⟨(fun h => by rw [HU.out] at h; cases h), (fun d hd => ?_), HO2.out.trans ho2 (by simp)⟩
    rw [HU.out] at hd
    cases hd
    exact ⟨a, c, by rw [HE.out]; rfl, by rw [HE.out]; exact HW.out.mono HO2.out.size⟩
theorem Unbox_any (v : Value) (l : Sec) (w : World) (hv : Bytes w v l) (hf : Fit v) (hl : l.length ≤ 17592186044416) :
    Calls Tryz.prog 88 #[v] w (UnboxPost w l) := by
  by_cases h : l.length < 6 ∨ 65536 < l.length
  · exact Unbox_size v l w hv h hl
  · by_cases hc : val (l.take 4) = crc (l.drop 4)
    · by_cases hn : l.length - 6 < val ((l.drop 4).take 2)
      · exact Unbox_big v l w hv hf (by omega) (by omega) hc hn
      · cases hb : isBlank ((l.drop 6).drop (val ((l.drop 4).take 2))) with
        | false => exact Unbox_dirt v l w hv hf (by omega) (by omega) hc (by omega) hb
        | true => exact Unbox_yes v l w hv hf (by omega) (by omega) hc (by omega) hb
    · exact Unbox_check v l w hv hf (by omega) (by omega) hc
end Go.Proofs.YtfnedeaemjchgaaGreat
