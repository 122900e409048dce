/- wire: Take, Takes, TakeRow. -/
import Derived.Test.YtfnedeaemjchgaaGreatN2
namespace Go.Proofs.YtfnedeaemjchgaaGreat
open Go.RowKit Go.Maps
set_option linter.unusedSimpArgs false
set_option linter.unusedVariables false

theorem takeN_none {l : Sec} (h : takeN l = none) : numV l = (0, 0) := by unfold numV; rw [h]
theorem takeN_some {l : Sec} {n : Int} {k : Nat} (h : takeN l = some (n, k)) : numV l = (n, (k : Int)) := by unfold numV; rw [h]

theorem elem_bytes : Tryz.prog.underlying 27 = some (.slice (Tryz.prog.elem 27)) := by kernel_rfl
theorem size_u8 (w : World) : (sizeOf (Tryz.prog.elem 27)).run Tryz.prog w = .ok 1 w := by kernel_rfl
/-- b[k:]. -/
theorem slice_from {w : World} {va : Option Addr} {vc : Nat} {l : Sec} (hb : Bytes w (.slice va l.length vc) l) (hf : l.length ≤ vc) (k : Nat) (hk : k ≤ l.length) (kk : IntKind) :
    ∃ b, (∀ w, (Instr.sliceAt 27 (.slice va l.length vc) (some (.int kk (k : Int))) none none).run Tryz.prog w = .ok (.slice b (l.length - k) (vc - k)) w) ∧ Bytes w (.slice b (l.length - k) (vc - k)) (l.drop k) := by
  refine ⟨if vc = k then va else va.map (·.add (k * 1)), fun w => ?_, ?_⟩
  · rw [run_sliceAt_slice w _ _ _ _ _ elem_bytes, run_slice_l w _ _ _ _ elem_bytes kk (k : Int) (by omega) (by omega), size_u8]
    simp [Result.andThen, sliced]
  · have e1 : l.drop k = (l.take l.length).drop k := by rw [List.take_length]
    rw [e1]
    refine hb.part k l.length _ _ (fun g off ha hlt => ?_) (Nat.le_refl _)
    rw [if_neg (by omega), ha, Option.map_some, Nat.mul_one, Addr.add_lit]
/-- b[:k]. -/
theorem slice_to {w : World} {va : Option Addr} {vc : Nat} {l : Sec} (hb : Bytes w (.slice va l.length vc) l) (hf : l.length ≤ vc) (k : Nat) (hk : k ≤ l.length) (kk : IntKind) :
    ∃ b, (∀ w, (Instr.sliceAt 27 (.slice va l.length vc) none (some (.int kk (k : Int))) none).run Tryz.prog w = .ok (.slice b k vc) w) ∧ Bytes w (.slice b k vc) (l.take k) := by
  refine ⟨if vc = 0 then va else va.map (·.add (0 * 1)), fun w => ?_, ?_⟩
  · rw [run_sliceAt_slice w _ _ _ _ _ elem_bytes, run_slice_h w _ _ _ _ elem_bytes kk (k : Int) (by omega) (by omega), size_u8]
    simp [Result.andThen, sliced]
  · have h := hb.part 0 k vc (if vc = 0 then va else va.map (·.add (0 * 1))) (fun g off ha hlt => by rw [if_neg (by omega), ha, Option.map_some, Nat.zero_mul, Addr.add_lit]) hk
    simpa using h

set_option maxRecDepth 100000 in
theorem Take_none (v : Value) (l : Sec) (w : World) (hv : Bytes w v l) (hl : l.length ≤ 17592186044416) (h : takeN l = none) :
    Calls Tryz.prog 89 #[v] w fun e w' => e = .returned (.tuple #[.int .i64 0, .slice none 0 0, err 4]) ∧ w = w' := by
  have H := Lib.hid (takeN_none h)
  clear h
  go_enter Tryz.func89, Tryz.ntmps89
  go_wp2_with fail
  refine (number_any v l w hv (by omega)).mono ?_
  rintro e w1 ⟨rfl, rfl⟩
  rw [H.out]
  go_wp2_with fail
  go_ret3
  exact ⟨rfl, rfl⟩
set_option maxRecDepth 100000 in
theorem Take_some (v : Value) (l : Sec) (w : World) (hv : Bytes w v l) (hf : Fit v) (hl : l.length ≤ 17592186044416) (n : Int) (k : Nat) (h : takeN l = some (n, k)) :
    Calls Tryz.prog 89 #[v] w fun e w' => ∃ a cap, e = .returned (.tuple #[.int .i64 n, .slice a (l.length - k) cap, .nilIface]) ∧ Own w' w.heap.size (.slice a (l.length - k) cap) (l.drop k) ∧ Only [] w w' := by
  have H := Lib.hid (takeN_some h)
  obtain ⟨_, hk, h1, _, _⟩ := takeN_inv h
  clear h
  have HV := Lib.hid hv
  obtain ⟨va, vc, rfl, -⟩ := id hv
  obtain ⟨hf1, hf2⟩ := hf _ _ _ rfl
  clear hv hf
  unfold maxLen at hf2
  obtain ⟨b, hs, hb⟩ := slice_from HV.out hf1 k hk .i64
  have HB := Lib.hid hb
  clear hb
  have k0 : ((k : Int) == 0) = false := by simp; omega
  go_enter Tryz.func89, Tryz.ntmps89
  go_wp2_with fail
  refine (number_any _ l w HV.out (by omega)).mono ?_
  rintro e w1 ⟨rfl, rfl⟩
  rw [H.out]
  go_wp2_with fail
  have e1 : (l.drop k).length = l.length - k := List.length_drop
  refine (clone_any _ (l.drop k) w HB.out (by omega)).mono ?_
  rw [e1]
  rintro e w1 ⟨a, cap, rfl, hw1, ho1⟩
  have HW := Lib.hid hw1
  clear hw1 e1 hs
  go_wp2_with fail
  go_ret3
  exact ⟨a, cap, rfl, HW.out, ho1⟩

theorem slice_from0 {w : World} {va : Option Addr} {vc : Nat} {l : Sec} (hb : Bytes w (.slice va l.length vc) l) (hf : l.length ≤ vc) (kk : IntKind) :
    ∃ b, (∀ w, (Instr.sliceAt 27 (.slice va l.length vc) (some (.int kk 0)) none none).run Tryz.prog w = .ok (.slice b l.length vc) w) := by
  obtain ⟨b, h, _⟩ := slice_from hb hf 0 (Nat.zero_le _) kk
  exact ⟨b, h⟩

set_option maxRecDepth 100000 in
theorem TakeRow_none0 (v : Value) (l : Sec) (w : World) (hv : Bytes w v l) (hf : Fit v) (hl : l.length ≤ 17592186044416) (h : takeN l = none) :
    Calls Tryz.prog 90 #[v] w fun e w' => e = .returned (.tuple #[.slice none 0 0, .slice none 0 0, err 4]) ∧ w = w' := by
  have H := Lib.hid (takeN_none h)
  clear h
  have HV := Lib.hid hv
  obtain ⟨va, vc, rfl, -⟩ := id hv
  obtain ⟨hf1, hf2⟩ := hf _ _ _ rfl
  clear hv hf
  unfold maxLen at hf2
  obtain ⟨b, hs⟩ := slice_from0 HV.out hf1 .i64
  go_enter Tryz.func90, Tryz.ntmps90
  go_wp2_with fail
  refine (number_any _ l w HV.out (by omega)).mono ?_
  rintro e w1 ⟨rfl, rfl⟩
  rw [H.out]
  go_wp2_with fail
  go_ret3
  exact ⟨rfl, rfl⟩
set_option maxRecDepth 100000 in
theorem TakeRow_none1 (v : Value) (l : Sec) (w : World) (hv : Bytes w v l) (hf : Fit v) (hl : l.length ≤ 17592186044416) (n : Int) (k : Nat) (h : takeN l = some (n, k)) (hn : n < 0 ∨ ((l.length - k : Nat) : Int) < n) :
    Calls Tryz.prog 90 #[v] w fun e w' => e = .returned (.tuple #[.slice none 0 0, .slice none 0 0, err 4]) ∧ w = w' := by
  have H := Lib.hid (takeN_some h)
  obtain ⟨_, hk, h1, _, _⟩ := takeN_inv h
  clear h
  have HV := Lib.hid hv
  obtain ⟨va, vc, rfl, -⟩ := id hv
  obtain ⟨hf1, hf2⟩ := hf _ _ _ rfl
  clear hv hf
  unfold maxLen at hf2
  obtain ⟨b, hs, _⟩ := slice_from HV.out hf1 k hk .i64
  have k0 : ((k : Int) == 0) = false := by simp; omega
  have hlk : ((l.length - k : Nat) : Int) ≤ 17592186044416 := by omega
  generalize l.length - k = m at *
  by_cases hn0 : n < 0
  · clear hn
    go_enter Tryz.func90, Tryz.ntmps90
    go_wp2_with fail
    refine (number_any _ l w HV.out (by omega)).mono ?_
    rintro e w1 ⟨rfl, rfl⟩
    rw [H.out]
    go_wp2_with fail
    go_ret3
    exact ⟨rfl, rfl⟩
  · have hn1 : (m : Int) < n := by omega
    clear hn
    go_enter Tryz.func90, Tryz.ntmps90
    go_wp2_with fail
    refine (number_any _ l w HV.out (by omega)).mono ?_
    rintro e w1 ⟨rfl, rfl⟩
    rw [H.out]
    go_wp2_with fail
    go_ret3
    exact ⟨rfl, rfl⟩
theorem TakeRow_none (v : Value) (l : Sec) (w : World) (hv : Bytes w v l) (hf : Fit v) (hl : l.length ≤ 17592186044416) (h : takeR l = none) :
    Calls Tryz.prog 90 #[v] w fun e w' => e = .returned (.tuple #[.slice none 0 0, .slice none 0 0, err 4]) ∧ w = w' := by
  unfold takeR at h
  split at h
  · exact TakeRow_none0 v l w hv hf hl ‹_›
  · rename_i n k hk
    split at h
    · exact TakeRow_none1 v l w hv hf hl n k hk ‹_›
    · cases h

/-- Two slices that lie in no block together. -/
def Sep (u v : Value) : Prop := ∀ g, u.ownBlock = some g → v.ownBlock ≠ some g
theorem Sep.symm {u v : Value} (h : Sep u v) : Sep v u := fun g h1 h2 => h g h2 h1
theorem sep_later {w w' : World} {b b' : Nat} {u v : Value} {l m : Sec} (h : Own w b u l) (k : Own w' b' v m) (hb : w.heap.size ≤ b') : Sep u v := fun g h1 h2 => by
  have q1 := (h.lt h1).2
  have q2 := (k.lt h2).1
  omega

def RowPost (w : World) (r rest : Sec) (e : Ending) (w' : World) : Prop :=
  ∃ a1 c1 a2 c2, e = .returned (.tuple #[.slice a1 r.length c1, .slice a2 rest.length c2, .nilIface]) ∧ Own w' w.heap.size (.slice a1 r.length c1) r ∧ Own w' w.heap.size (.slice a2 rest.length c2) rest ∧ Sep (.slice a1 r.length c1) (.slice a2 rest.length c2) ∧ Only [] w w'

set_option maxRecDepth 100000 in
theorem TakeRow_some (v : Value) (l : Sec) (w : World) (hv : Bytes w v l) (hf : Fit v) (hl : l.length ≤ 17592186044416) (r rest : Sec) (h : takeR l = some (r, rest)) :
    Calls Tryz.prog 90 #[v] w (RowPost w r rest) := by
  obtain ⟨n, k, hk0, hn, hr, hrest⟩ : ∃ (n k : Nat), takeN l = some ((n : Int), k) ∧ n ≤ l.length - k ∧ r = (l.drop k).take n ∧ rest = (l.drop k).drop n := by
    unfold takeR at h
    split at h
    · cases h
    · rename_i n k hk
      split at h
      · cases h
      · simp only [Option.some.injEq, Prod.mk.injEq] at h
        exact ⟨n.toNat, k, by rw [hk, show ((n.toNat : Nat) : Int) = n by omega], by omega, h.1.symm, h.2.symm⟩
  have H := Lib.hid (takeN_some hk0)
  obtain ⟨_, hk, h1, _, _⟩ := takeN_inv hk0
  clear h hk0
  have HV := Lib.hid hv
  obtain ⟨va, vc, rfl, -⟩ := id hv
  obtain ⟨hf1, hf2⟩ := hf _ _ _ rfl
  clear hv hf
  unfold maxLen at hf2
  obtain ⟨b, hs, hb⟩ := slice_from HV.out hf1 k hk .i64
  have k0 : ((k : Int) == 0) = false := by simp; omega
  have e1 : l.length - k = (l.drop k).length := List.length_drop.symm
  have hfm : (l.drop k).length ≤ vc - k := by simp; omega
  have hdl : (l.drop k).length ≤ 17592186044416 := by simp; omega
  rw [e1] at hs hb hn
  clear e1
  generalize l.drop k = m at *
  generalize vc - k = mc at *
  obtain ⟨b1, hs1, hb1⟩ := slice_to hb hfm n hn .i64
  obtain ⟨b2, hs2, hb2⟩ := slice_from hb hfm n hn .i64
  have er : r.length = n := by rw [hr]; simp; omega
  have er2 : rest.length = m.length - n := by rw [hrest]; simp
  have hn2 : n ≤ 17592186044416 := by omega
  have hn3 : (n : Int) ≤ (m.length : Int) := by omega
  have B1 := Lib.hid (hr ▸ hb1 : Bytes w (.slice b1 n mc) r)
  have B2 := Lib.hid (hrest ▸ hb2 : Bytes w (.slice b2 (m.length - n) (mc - n)) rest)
  clear hb hb1 hb2 hr hrest
  have hr2 : rest.length ≤ 17592186044416 := by omega
  have ER := Lib.hid er
  have ER2 := Lib.hid er2
  clear er er2
  generalize hm2 : m.length - n = m2 at *
  have HM2 := Lib.hid hm2
  clear hm2
  go_enter Tryz.func90, Tryz.ntmps90
  go_wp2_with fail
  refine (number_any _ l w HV.out (by omega)).mono ?_
  rintro e w1 ⟨rfl, rfl⟩
  rw [H.out]
  go_wp2_with fail
  refine wp_region_held_drew (S := fun _ => True) (by kernel_rfl) trivial (fun hH => ?_)
  refine take_list (i := 0) (v := ?_) rfl (by kernel_rfl) (by kernel_rfl) (by kernel_rfl) (fun _ _ _ h => h) (Or.inl ⟨by rfl, ?_⟩) hH ?_
  rotate_left
  · ((intro w hSw; (try dsimp only at hSw); go_simp); try with_reducible rfl)
  simp only [Act.put, List.setIfInBounds_toArray, List.set_cons_zero, List.set_cons_succ]
  refine take_list (i := 1) (v := ?_) rfl (by kernel_rfl) (by kernel_rfl) (by kernel_rfl) (fun _ _ _ h => h) (Or.inl ⟨by rfl, ?_⟩) hH ?_
  rotate_left
  · ((intro w hSw; (try dsimp only at hSw); go_simp); try with_reducible rfl)
  simp only [Act.put, List.setIfInBounds_toArray, List.set_cons_zero, List.set_cons_succ]
  refine take_list (i := 2) (v := ?_) rfl (by kernel_rfl) (by kernel_rfl) (by kernel_rfl) (fun _ _ _ h => h) (Or.inl ⟨by rfl, ?_⟩) hH ?_
  rotate_left
  · ((intro w hSw; (try dsimp only at hSw); go_simp); try with_reducible rfl)
  simp only [Act.put, List.setIfInBounds_toArray, List.set_cons_zero, List.set_cons_succ]
  refine take_list (i := 4) (v := ?_) rfl (by kernel_rfl) (by kernel_rfl) (by kernel_rfl) (fun _ _ _ h => h) (Or.inl ⟨by rfl, ?_⟩) hH ?_
  rotate_left
  · ((intro w hSw; (try dsimp only at hSw); go_simp); try with_reducible rfl)
  simp only [Act.put, List.setIfInBounds_toArray, List.set_cons_zero, List.set_cons_succ]
  refine take_list (i := 5) (v := ?_) rfl (by kernel_rfl) (by kernel_rfl) (by kernel_rfl) (fun _ _ _ h => h) (Or.inl ⟨by rfl, ?_⟩) hH ?_
  rotate_left
  · ((intro w hSw; (try dsimp only at hSw); go_simp); try with_reducible rfl)
  simp only [Act.put, List.setIfInBounds_toArray, List.set_cons_zero, List.set_cons_succ]
  refine take_list (i := 6) (v := ?_) rfl (by kernel_rfl) (by kernel_rfl) (by kernel_rfl) (fun _ _ _ h => h) (Or.inl ⟨by rfl, ?_⟩) hH ?_
  rotate_left
  · ((intro w hSw; (try dsimp only at hSw); go_simp); try with_reducible rfl)
  simp only [Act.put, List.setIfInBounds_toArray, List.set_cons_zero, List.set_cons_succ]
  clear hs hs1 hs2
  refine wpAnyH_ready (rs := [3]) (by kernel_rfl) (by simp) ?_
  refine ready_list rfl (fun K hK => ?_)
  go_simp
  refine (clone_any _ r _ (B1.out.kept ((Only.refl [] w).drew) (clean_nil _)) (by rw [ER.out]; omega)).mono ?_
  rw [ER.out]
  rintro e w3 ⟨a1, c1, rfl, hw3, ho3⟩
  have O3 := Lib.hid (((Only.refl [] w).drew).trans ho3 (by simp))
  have W3 := Lib.hid (hw3 : Own w3 w.heap.size (.slice a1 n c1) r)
  clear hw3 ho3
  refine hK.out _ _ trivial (fun hH => ?_)
  clear hK K
  refine wpAnyH_ready (rs := [7]) (by kernel_rfl) (by simp) ?_
  refine ready_list rfl (fun K hK => ?_)
  go_simp
  refine (clone_any _ rest _ (B2.out.kept O3.out (clean_nil _)) (by omega)).mono ?_
  rw [ER2.out]
  rintro e w4 ⟨a2, c2, rfl, hw4, ho4⟩
  have hsep := sep_later W3.out hw4 (Nat.le_refl _)
  have O4 := Lib.hid (O3.out.trans ho4 (by simp))
  have W4 := Lib.hid (hw4.mono (base' := w.heap.size) O3.out.size)
  have W5 := Lib.hid (W3.out.quiet ho4)
  clear hw4 ho4 W3 O3
  refine hK.out _ _ trivial (fun hH => ?_)
  clear hK K
  refine take_list (i := 8) (v := ?_) rfl (by kernel_rfl) (by kernel_rfl) (by kernel_rfl) (fun _ _ _ h => h) (Or.inl ⟨by rfl, ?_⟩) hH ?_
  rotate_left
  · ((intro w hSw; (try dsimp only at hSw); go_simp); try with_reducible rfl)
  simp only [Act.put, List.setIfInBounds_toArray, List.set_cons_zero, List.set_cons_succ]
  refine take_list (i := 9) (v := ?_) rfl (by kernel_rfl) (by kernel_rfl) (by kernel_rfl) (fun _ _ _ h => h) (Or.inl ⟨by rfl, ?_⟩) hH ?_
  rotate_left
  · ((intro w hSw; (try dsimp only at hSw); go_simp); try with_reducible rfl)
  simp only [Act.put, List.setIfInBounds_toArray, List.set_cons_zero, List.set_cons_succ]
  refine take_list (i := 10) (v := ?_) rfl (by kernel_rfl) (by kernel_rfl) (by kernel_rfl) (fun _ _ _ h => h) (Or.inl ⟨by rfl, ?_⟩) hH ?_
  rotate_left
  · ((intro w hSw; (try dsimp only at hSw); go_simp); try with_reducible rfl)
  simp only [Act.put, List.setIfInBounds_toArray, List.set_cons_zero, List.set_cons_succ]
  refine wpAnyH_done (by kernel_rfl) ?_ _
  go_wp2
  go_ret3
  exact ⟨a1, c1, a2, c2, by rw [ER.out, ER2.out]; rfl, by rw [ER.out]; exact W5.out, by rw [ER2.out]; exact W4.out, by rw [ER.out, ER2.out]; exact hsep, O4.out⟩
end Go.Proofs.YtfnedeaemjchgaaGreat
