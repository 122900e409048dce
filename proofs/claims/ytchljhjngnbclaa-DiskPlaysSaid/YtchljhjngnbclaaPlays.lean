/- DiskPlays: whatever the size and the calls, the law returns true (a device answers as the document's own does), and its arguments read as they did. No condition. -/
import Derived.Test.YtchljhjngnbclaaPlay7
import Derived.Test.YtchljhjngnbclaaL
namespace Go.Proofs.Ytchljhjngnbclaa
open Go.ChangeShapes Go.WideShapes Go.ChangeAt Go.RowKit
set_option linter.unusedVariables false
set_option linter.unusedSimpArgs false

set_option maxRecDepth 100000 in
set_option maxHeartbeats 8000000 in
theorem plays_walk (size : Int) (v : Value) (os : List OpR) (w : World) (hw : (Lit.int .i64 size).wf = true) (hs : Script w v os) (hl : os.length ≤ maxLen) :
    Calls Try.prog 3 #[.int .i64 size, v] w fun e w' => e = .returned (.bool true) ∧ Only [] w w' := by
  have HS := Lib.hid hs
  have HL := Lib.hid hl
  obtain ⟨va, vcap, rfl, -⟩ := hs
  clear hl hw
  by_cases hbad : size < 1 ∨ 4096 < size
  · have HB := Lib.hid hbad
    clear hbad
    go_enter Try.func3, Try.ntmps3
    go_wp2_with fail
    refine (alive_any _).mono ?_
    rintro e w1 ⟨rfl, o1⟩
    go_wp2_with fail
    refine (New_bad size _ HB.out).mono ?_
    rintro e w2 ⟨rfl, rfl⟩
    go_wp2_with fail
    refine (New_ref_bad size _ HB.out).mono ?_
    rintro e w2 ⟨rfl, rfl⟩
    go_wp2_with fail
    refine (num_err 1 _ (by decide)).mono ?_
    rintro e w2 ⟨rfl, rfl⟩
    go_wp2_with fail
    refine (num_err 1 _ (by decide)).mono ?_
    rintro e w2 ⟨rfl, rfl⟩
    go_wp2_with fail
    go_ret
    exact ⟨rfl, o1⟩
  · obtain ⟨n, rfl⟩ : ∃ n : Nat, size = (n : Int) := ⟨size.toNat, by omega⟩
    have h1 : 1 ≤ n := by omega
    have h2 : n ≤ 4096 := by omega
    clear hbad
    go_enter Try.func3, Try.ntmps3
    go_wp2_with fail
    refine (alive_any _).mono ?_
    rintro e w1 ⟨rfl, o1⟩
    go_wp2_with fail
    refine (new_st n w1 (by omega) (by omega)).mono ?_
    rintro e w2 ⟨a, rfl, s2⟩
    go_wp2_with fail
    refine (New_ref n w2 h1 h2).mono ?_
    rintro e w3 ⟨b, rfl, r3, hb3, o3⟩
    have p3 := Lib.hid (Pair.fresh' s2 r3 hb3 o3)
    clear s2 r3 hb3 o3
    go_wp2_with fail
    refine (num_nil _).mono ?_
    rintro e w4 ⟨rfl, rfl⟩
    go_wp2_with fail
    refine (long_all _ os _ (HS.out.kept (o1.trans p3.out.st.only (by simp))) HL.out).mono ?_
    rintro e w4 ⟨x, rfl, hx, o4⟩
    have p4 := p3.out.quiet o4
    have m4 := Match.fresh n
    clear p3 o4
    cases x
    rotate_left
    · have P4 := Lib.hid p4
      clear p4 m4 hx
      go_wp2_with fail
      refine (num_nil _).mono ?_
      rintro e w5 ⟨rfl, rfl⟩
      go_wp2_with fail
      go_ret
      exact ⟨rfl, o1.trans P4.out.st.only (by simp)⟩
    have hlen : os.length ≤ 400 := (hx rfl).1
    have HX := Lib.hid (hx rfl).2
    have HO1 := Lib.hid o1
    clear hx o1
    go_wp2_with fail
    go_loopw [10, 51] (fun _ i wr => ∃ (k : Nat) (D : Disk) (R : Ref), k ≤ os.length ∧ i = .int .i64 k ∧ Pair w1 wr [] a b D R ∧ Match D R) (fun _ i _ => os.length - (intOf i).toNat)
    case atStart => exact ⟨0, _, _, by omega, rfl, p4, m4⟩
    case round =>
      clear p4 m4
      obtain ⟨k, D, R, hk, rfl, p5, m5⟩ := hrel
      have P5 := Lib.hid p5
      have M5 := Lib.hid m5
      clear p5 m5
      by_cases hlt : k < os.length
      · have hkl : os[k]? = some os[k] := List.getElem?_eq_getElem hlt
        obtain ⟨a', cap', hv, hc⟩ := HS.out.kept (HO1.out.trans P5.out.st.only (by simp))
        obtain ⟨bb, off, bv, kv, ha, c0, c1, c2, c3, c4, _⟩ := hc k _ hkl
        obtain ⟨a1, cap1, hv1, hc1⟩ := HS.out.kept HO1.out
        obtain ⟨bb1, off1, bv1, kv1, ha1, d0, d1, d2, d3, d4, hb, hkv, _, _, hn, _, _⟩ := hc1 k _ hkl
        cases hv
        cases hv1
        subst ha
        cases ha1
        have e3 := cell_kept P5.out.st.only d3 (by simp)
        have e4 := cell_kept P5.out.st.only d4 (by simp)
        obtain rfl : bv = bv1 := Option.some.inj (c3.symm.trans e3)
        obtain rfl : kv = kv1 := Option.some.inj (c4.symm.trans e4)
        have hsh := HX.out k _ hlt hkl
        have hn' : os[k].n ≤ 9223372036854775807 := by simp [Lit.wf] at hn; have h1 : IntKind.i64.max = 9223372036854775807 := by decide
                                                       omega
        have HP := Lib.hid (And.intro hb (And.intro hkv (And.intro hsh hn')))
        have hshb : ∃ (x1 : Option Addr) (n1 q1 : Nat) (x2 : Option Addr) (n2 q2 : Nat), bv = .slice x1 n1 q1 ∧ kv = .slice x2 n2 q2 := by
          obtain ⟨_, _, e1, _⟩ := hb
          obtain ⟨_, _, e2, _⟩ := hkv
          exact ⟨_, _, _, _, _, _, e1, e2⟩
        obtain ⟨x1, n1, q1, x2, n2, q2, rfl, rfl⟩ := hshb
        clear hc hc1 hkl d0 d1 d2 d3 d4 e3 e4 hb hkv hn hn' hsh
        generalize os[k] = oo at c0 c1 c2 c3 c4 HP
        obtain ⟨kind, at_, nn, lb, ks⟩ := oo
        dsimp only at c0 c1 c2 HP
        have k0 : (0 : Int) ≤ (k : Int) := by omega
        have k1 : (k : Int) < (os.length : Int) := by omega
        go_wp2_with fail
        have P8 := Lib.hid (P5.out.quiet (((Only.refl [] wr).alloc (.cells (opCells kind at_ nn (.slice x1 n1 q1) (.slice x2 n2 q2)) 37)).drew))
        have B8 := heap_new wr (.cells (opCells kind at_ nn (.slice x1 n1 q1) (.slice x2 n2 q2)) 37)
        generalize hg8 : wr.heap.size = g8 at B8
        have HB := Lib.hid B8
        have e0 : (wr.alloc (.cells (opCells kind at_ nn (.slice x1 n1 q1) (.slice x2 n2 q2)) 37)).drew.cell? ⟨g8, 0, none⟩ = some (.int .i64 kind) := (cell_at 0 HB.out).trans rfl
        have e1 : (wr.alloc (.cells (opCells kind at_ nn (.slice x1 n1 q1) (.slice x2 n2 q2)) 37)).drew.cell? ⟨g8, 1, none⟩ = some (.int .i64 at_) := (cell_at 1 HB.out).trans rfl
        have e2 : (wr.alloc (.cells (opCells kind at_ nn (.slice x1 n1 q1) (.slice x2 n2 q2)) 37)).drew.cell? ⟨g8, 2, none⟩ = some (.int .i64 nn) := (cell_at 2 HB.out).trans rfl
        have e3 : (wr.alloc (.cells (opCells kind at_ nn (.slice x1 n1 q1) (.slice x2 n2 q2)) 37)).drew.cell? ⟨g8, 3, none⟩ = some (.slice x1 n1 q1) := (cell_at 3 HB.out).trans rfl
        have e4 : (wr.alloc (.cells (opCells kind at_ nn (.slice x1 n1 q1) (.slice x2 n2 q2)) 37)).drew.cell? ⟨g8, 4, none⟩ = some (.slice x2 n2 q2) := (cell_at 4 HB.out).trans rfl
        clear B8 c0 c1 c2 c3 c4 P5 hg8
        generalize (wr.alloc (.cells (opCells kind at_ nn (.slice x1 n1 q1) (.slice x2 n2 q2)) 37)) = w8 at P8 HB e0 e1 e2 e3 e4 ⊢
        refine wp_region_held_drew (S := fun _ => True) (by kernel_rfl) trivial (fun hH => ?_)
        refine take_list (i := 0) (v := ?_) rfl (by kernel_rfl) (by kernel_rfl) (by kernel_rfl) (fun _ _ _ h => h) (Or.inl ⟨by rfl, ?_⟩) hH ?_
        rotate_left
        · ((intro w hSw; (try dsimp only at hSw); go_simp); try with_reducible rfl)
        simp only [Act.put, List.setIfInBounds_toArray, List.set_cons_zero, List.set_cons_succ]
        refine take_list (i := 1) (v := ?_) rfl (by kernel_rfl) (by kernel_rfl) (by kernel_rfl) (fun _ _ _ h => h) (Or.inl ⟨by rfl, ?_⟩) hH ?_
        rotate_left
        · ((intro w hSw; (try dsimp only at hSw); go_simp); try with_reducible rfl)
        simp only [Act.put, List.setIfInBounds_toArray, List.set_cons_zero, List.set_cons_succ]
        refine wpAnyH_ready (rs := [2]) (by kernel_rfl) (by simp) ?_
        refine ready_list rfl (fun K hK => ?_)
        go_simp
        refine hK.out _ _ trivial (fun hH => ?_)
        clear hK K e0 e1 e2 e3 e4
        refine wpAnyH_ready (rs := [3]) (by kernel_rfl) (by simp) ?_
        refine ready_list rfl (fun K hK => ?_)
        go_simp
        refine (play_all P8.out M5.out lb HP.out.1 HP.out.2.2.1.1 ks HP.out.2.1 HP.out.2.2.1.2 HP.out.2.2.2).mono ?_
        rintro e w9 ⟨rfl, D9, R9, p9, m9⟩
        refine hK.out _ _ trivial (fun _ => ?_)
        clear hK K hH P8 M5 HP HB D R
        have P9 := Lib.hid p9
        have M9 := Lib.hid m9
        clear p9 m9
        refine wpAnyH_sharpen (S' := fun w' => w'.cell? ⟨b.p, 0, none⟩ = some (.slice (some ⟨b.gN, 0, none⟩) R9.n b.cN) ∧ w'.cell? ⟨b.p, 3, none⟩ = some (.int .i64 R9.steps) ∧ w'.cell? ⟨b.p, 4, none⟩ = some (.int .i64 R9.syncs) ∧ w'.cell? ⟨b.p, 7, none⟩ = some (.bool R9.down)) (fun _ _ => trivial) ?_
        have hH := P9.out.shows
        refine take_list (i := 4) (v := ?_) rfl (by kernel_rfl) (by kernel_rfl) (by kernel_rfl) (fun _ _ _ h => h) (Or.inl ⟨by rfl, ?_⟩) hH ?_
        rotate_left
        · ((intro w hSw; (try dsimp only at hSw); go_simp); try with_reducible rfl)
        simp only [Act.put, List.setIfInBounds_toArray, List.set_cons_zero, List.set_cons_succ]
        refine take_list (i := 5) (v := ?_) rfl (by kernel_rfl) (by kernel_rfl) (by kernel_rfl) (fun _ _ _ h => h) (Or.inl ⟨by rfl, ?_⟩) hH ?_
        rotate_left
        · ((intro w hSw; (try dsimp only at hSw); go_simp); try with_reducible rfl)
        simp only [Act.put, List.setIfInBounds_toArray, List.set_cons_zero, List.set_cons_succ]
        refine take_list (i := 6) (v := ?_) rfl (by kernel_rfl) (by kernel_rfl) (by kernel_rfl) (fun _ _ _ h => h) (Or.inl ⟨by rfl, ?_⟩) hH ?_
        rotate_left
        · ((intro w hSw; (try dsimp only at hSw); go_simp); try with_reducible rfl)
        simp only [Act.put, List.setIfInBounds_toArray, List.set_cons_zero, List.set_cons_succ]
        refine take_list (i := 8) (v := ?_) rfl (by kernel_rfl) (by kernel_rfl) (by kernel_rfl) (fun _ _ _ h => h) (Or.inl ⟨by rfl, ?_⟩) hH ?_
        rotate_left
        · ((intro w hSw; (try dsimp only at hSw); go_simp); try with_reducible rfl)
        simp only [Act.put, List.setIfInBounds_toArray, List.set_cons_zero, List.set_cons_succ]
        refine take_list (i := 9) (v := ?_) rfl (by kernel_rfl) (by kernel_rfl) (by kernel_rfl) (fun _ _ _ h => h) (Or.inl ⟨by rfl, ?_⟩) hH ?_
        rotate_left
        · ((intro w hSw; (try dsimp only at hSw); go_simp); try with_reducible rfl)
        simp only [Act.put, List.setIfInBounds_toArray, List.set_cons_zero, List.set_cons_succ]
        refine take_list (i := 10) (v := ?_) rfl (by kernel_rfl) (by kernel_rfl) (by kernel_rfl) (fun _ _ _ h => h) (Or.inl ⟨by rfl, ?_⟩) hH ?_
        rotate_left
        · ((intro w hSw; (try dsimp only at hSw); go_simp); try with_reducible rfl)
        simp only [Act.put, List.setIfInBounds_toArray, List.set_cons_zero, List.set_cons_succ]
        refine take_list (i := 11) (v := ?_) rfl (by kernel_rfl) (by kernel_rfl) (by kernel_rfl) (fun _ _ _ h => h) (Or.inl ⟨by rfl, ?_⟩) hH ?_
        rotate_left
        · ((intro w hSw; (try dsimp only at hSw); go_simp); try with_reducible rfl)
        simp only [Act.put, List.setIfInBounds_toArray, List.set_cons_zero, List.set_cons_succ]
        refine wpAnyH_ready (rs := [7]) (by kernel_rfl) (by simp) ?_
        refine ready_list rfl (fun K hK => ?_)
        go_simp
        refine (steps_st P9.out.st R9.steps M9.out.steps).mono ?_
        rintro e w' ⟨rfl, rfl⟩
        refine hK.out _ _ hH (fun hH => ?_)
        clear hK K
        refine take_list (i := 12) (v := ?_) rfl (by kernel_rfl) (by kernel_rfl) (by kernel_rfl) (fun _ _ _ h => h) (Or.inl ⟨by rfl, ?_⟩) hH ?_
        rotate_left
        · ((intro w hSw; (try dsimp only at hSw); go_simp); try with_reducible rfl)
        simp only [Act.put, List.setIfInBounds_toArray, List.set_cons_zero, List.set_cons_succ]
        refine take_list (i := 13) (v := ?_) rfl (by kernel_rfl) (by kernel_rfl) (by kernel_rfl) (fun _ _ _ h => h) (Or.inl ⟨by rfl, ?_⟩) hH ?_
        rotate_left
        · ((intro w hSw; (try dsimp only at hSw); go_simp); try with_reducible rfl)
        simp only [Act.put, List.setIfInBounds_toArray, List.set_cons_zero, List.set_cons_succ]
        refine take_list (i := 14) (v := ?_) rfl (by kernel_rfl) (by kernel_rfl) (by kernel_rfl) (fun _ _ _ h => h) (Or.inl ⟨by rfl, ?_⟩) hH ?_
        rotate_left
        · ((intro w hSw; (try dsimp only at hSw); go_simp); try with_reducible rfl)
        simp only [Act.put, List.setIfInBounds_toArray, List.set_cons_zero, List.set_cons_succ]
        refine take_list (i := 15) (v := ?_) rfl (by kernel_rfl) (by kernel_rfl) (by kernel_rfl) (fun _ _ _ h => h) (Or.inl ⟨by rfl, ?_⟩) hH ?_
        rotate_left
        · ((intro w hSw; (try dsimp only at hSw); go_simp); try with_reducible rfl)
        simp only [Act.put, List.setIfInBounds_toArray, List.set_cons_zero, List.set_cons_succ]
        refine take_list (i := 17) (v := ?_) rfl (by kernel_rfl) (by kernel_rfl) (by kernel_rfl) (fun _ _ _ h => h) (Or.inl ⟨by rfl, ?_⟩) hH ?_
        rotate_left
        · ((intro w hSw; (try dsimp only at hSw); go_simp); try with_reducible rfl)
        simp only [Act.put, List.setIfInBounds_toArray, List.set_cons_zero, List.set_cons_succ]
        refine take_list (i := 18) (v := ?_) rfl (by kernel_rfl) (by kernel_rfl) (by kernel_rfl) (fun _ _ _ h => h) (Or.inl ⟨by rfl, ?_⟩) hH ?_
        rotate_left
        · ((intro w hSw; (try dsimp only at hSw); go_simp); try with_reducible rfl)
        simp only [Act.put, List.setIfInBounds_toArray, List.set_cons_zero, List.set_cons_succ]
        refine take_list (i := 19) (v := ?_) rfl (by kernel_rfl) (by kernel_rfl) (by kernel_rfl) (fun _ _ _ h => h) (Or.inl ⟨by rfl, ?_⟩) hH ?_
        rotate_left
        · ((intro w hSw; (try dsimp only at hSw); go_simp); try with_reducible rfl)
        simp only [Act.put, List.setIfInBounds_toArray, List.set_cons_zero, List.set_cons_succ]
        refine take_list (i := 20) (v := ?_) rfl (by kernel_rfl) (by kernel_rfl) (by kernel_rfl) (fun _ _ _ h => h) (Or.inl ⟨by rfl, ?_⟩) hH ?_
        rotate_left
        · ((intro w hSw; (try dsimp only at hSw); go_simp); try with_reducible rfl)
        simp only [Act.put, List.setIfInBounds_toArray, List.set_cons_zero, List.set_cons_succ]
        refine wpAnyH_ready (rs := [16]) (by kernel_rfl) (by simp) ?_
        refine ready_list rfl (fun K hK => ?_)
        go_simp
        refine (syncs_st P9.out.st R9.syncs M9.out.syncs).mono ?_
        rintro e w' ⟨rfl, rfl⟩
        refine hK.out _ _ hH (fun hH => ?_)
        clear hK K
        refine take_list (i := 21) (v := ?_) rfl (by kernel_rfl) (by kernel_rfl) (by kernel_rfl) (fun _ _ _ h => h) (Or.inl ⟨by rfl, ?_⟩) hH ?_
        rotate_left
        · ((intro w hSw; (try dsimp only at hSw); go_simp); try with_reducible rfl)
        simp only [Act.put, List.setIfInBounds_toArray, List.set_cons_zero, List.set_cons_succ]
        refine take_list (i := 22) (v := ?_) rfl (by kernel_rfl) (by kernel_rfl) (by kernel_rfl) (fun _ _ _ h => h) (Or.inl ⟨by rfl, ?_⟩) hH ?_
        rotate_left
        · ((intro w hSw; (try dsimp only at hSw); go_simp); try with_reducible rfl)
        simp only [Act.put, List.setIfInBounds_toArray, List.set_cons_zero, List.set_cons_succ]
        refine take_list (i := 23) (v := ?_) rfl (by kernel_rfl) (by kernel_rfl) (by kernel_rfl) (fun _ _ _ h => h) (Or.inl ⟨by rfl, ?_⟩) hH ?_
        rotate_left
        · ((intro w hSw; (try dsimp only at hSw); go_simp); try with_reducible rfl)
        simp only [Act.put, List.setIfInBounds_toArray, List.set_cons_zero, List.set_cons_succ]
        refine take_list (i := 24) (v := ?_) rfl (by kernel_rfl) (by kernel_rfl) (by kernel_rfl) (fun _ _ _ h => h) (Or.inl ⟨by rfl, ?_⟩) hH ?_
        rotate_left
        · ((intro w hSw; (try dsimp only at hSw); go_simp); try with_reducible rfl)
        simp only [Act.put, List.setIfInBounds_toArray, List.set_cons_zero, List.set_cons_succ]
        refine take_list (i := 26) (v := ?_) rfl (by kernel_rfl) (by kernel_rfl) (by kernel_rfl) (fun _ _ _ h => h) (Or.inl ⟨by rfl, ?_⟩) hH ?_
        rotate_left
        · ((intro w hSw; (try dsimp only at hSw); go_simp); try with_reducible rfl)
        simp only [Act.put, List.setIfInBounds_toArray, List.set_cons_zero, List.set_cons_succ]
        refine take_list (i := 27) (v := ?_) rfl (by kernel_rfl) (by kernel_rfl) (by kernel_rfl) (fun _ _ _ h => h) (Or.inl ⟨by rfl, ?_⟩) hH ?_
        rotate_left
        · ((intro w hSw; (try dsimp only at hSw); go_simp); try with_reducible rfl)
        simp only [Act.put, List.setIfInBounds_toArray, List.set_cons_zero, List.set_cons_succ]
        refine take_list (i := 28) (v := ?_) rfl (by kernel_rfl) (by kernel_rfl) (by kernel_rfl) (fun _ _ _ h => h) (Or.inl ⟨by rfl, ?_⟩) hH ?_
        rotate_left
        · ((intro w hSw; (try dsimp only at hSw); go_simp); try with_reducible rfl)
        simp only [Act.put, List.setIfInBounds_toArray, List.set_cons_zero, List.set_cons_succ]
        refine take_list (i := 29) (v := ?_) rfl (by kernel_rfl) (by kernel_rfl) (by kernel_rfl) (fun _ _ _ h => h) (Or.inl ⟨by rfl, ?_⟩) hH ?_
        rotate_left
        · ((intro w hSw; (try dsimp only at hSw); go_simp); try with_reducible rfl)
        simp only [Act.put, List.setIfInBounds_toArray, List.set_cons_zero, List.set_cons_succ]
        refine wpAnyH_ready (rs := [25]) (by kernel_rfl) (by simp) ?_
        refine ready_list rfl (fun K hK => ?_)
        go_simp
        refine (down_st P9.out.st R9.down M9.out.down).mono ?_
        rintro e w' ⟨rfl, rfl⟩
        refine hK.out _ _ hH (fun hH => ?_)
        clear hK K
        refine take_list (i := 30) (v := ?_) rfl (by kernel_rfl) (by kernel_rfl) (by kernel_rfl) (fun _ _ _ h => h) (Or.inl ⟨by rfl, ?_⟩) hH ?_
        rotate_left
        · ((intro w hSw; (try dsimp only at hSw); go_simp); try with_reducible rfl)
        simp only [Act.put, List.setIfInBounds_toArray, List.set_cons_zero, List.set_cons_succ]
        refine take_list (i := 31) (v := ?_) rfl (by kernel_rfl) (by kernel_rfl) (by kernel_rfl) (fun _ _ _ h => h) (Or.inl ⟨by rfl, ?_⟩) hH ?_
        rotate_left
        · ((intro w hSw; (try dsimp only at hSw); go_simp); try with_reducible rfl)
        simp only [Act.put, List.setIfInBounds_toArray, List.set_cons_zero, List.set_cons_succ]
        refine take_list (i := 32) (v := ?_) rfl (by kernel_rfl) (by kernel_rfl) (by kernel_rfl) (fun _ _ _ h => h) (Or.inl ⟨by rfl, ?_⟩) hH ?_
        rotate_left
        · ((intro w hSw; (try dsimp only at hSw); go_simp); try with_reducible rfl)
        simp only [Act.put, List.setIfInBounds_toArray, List.set_cons_zero, List.set_cons_succ]
        refine take_list (i := 33) (v := ?_) rfl (by kernel_rfl) (by kernel_rfl) (by kernel_rfl) (fun _ _ _ h => h) (Or.inl ⟨by rfl, ?_⟩) hH ?_
        rotate_left
        · ((intro w hSw; (try dsimp only at hSw); go_simp); try with_reducible rfl)
        simp only [Act.put, List.setIfInBounds_toArray, List.set_cons_zero, List.set_cons_succ]
        refine take_list (i := 35) (v := ?_) rfl (by kernel_rfl) (by kernel_rfl) (by kernel_rfl) (fun _ _ _ h => h) (Or.inl ⟨by rfl, ?_⟩) hH ?_
        rotate_left
        · ((intro w hSw; (try dsimp only at hSw); go_simp); try with_reducible rfl)
        simp only [Act.put, List.setIfInBounds_toArray, List.set_cons_zero, List.set_cons_succ]
        refine wpAnyH_ready (rs := [34]) (by kernel_rfl) (by simp) ?_
        refine ready_list rfl (fun K hK => ?_)
        go_simp
        refine (uns_st P9.out M9.out).mono ?_
        rintro e w10 ⟨v10, rfl, i10, o10⟩
        have P10 := Lib.hid (P9.out.quiet o10)
        refine hK.out _ _ P10.out.shows (fun hH => ?_)
        clear hK K P9 o10
        refine wpAnyH_ready (rs := [36]) (by kernel_rfl) (by simp) ?_
        refine ready_list rfl (fun K hK => ?_)
        go_simp
        refine (Unsynced_ref P10.out.ref).mono ?_
        rintro e w11 ⟨v11, rfl, i11, o11⟩
        have P11 := Lib.hid (P10.out.quiet o11)
        have j10 := i10.kept o11 (fun _ _ _ _ _ => by simp)
        refine hK.out _ _ P11.out.shows (fun hH => ?_)
        clear hK K P10 o11 i10
        refine wpAnyH_ready (rs := [37]) (by kernel_rfl) (by simp) ?_
        refine ready_list rfl (fun K hK => ?_)
        go_simp
        refine (ints_alike _ _ _ _ j10 i11 (by have := R9.list_len R9.n; have := P11.out.ref.hi; omega)).mono ?_
        rintro e w12 ⟨rfl, o12⟩
        have P12 := Lib.hid (P11.out.quiet o12)
        refine hK.out _ _ P12.out.shows (fun hH => ?_)
        clear hK K P11 o12 j10 i11
        refine take_list (i := 38) (v := ?_) rfl (by kernel_rfl) (by kernel_rfl) (by kernel_rfl) (fun _ _ _ h => h) (Or.inl ⟨by rfl, ?_⟩) hH ?_
        rotate_left
        · ((intro w hSw; (try dsimp only at hSw); go_simp); try with_reducible rfl)
        simp only [Act.put, List.setIfInBounds_toArray, List.set_cons_zero, List.set_cons_succ]
        refine take_list (i := 39) (v := ?_) rfl (by kernel_rfl) (by kernel_rfl) (by kernel_rfl) (fun _ _ _ h => h) (Or.inl ⟨by rfl, ?_⟩) hH ?_
        rotate_left
        · ((intro w hSw; (try dsimp only at hSw); go_simp); try with_reducible rfl)
        simp only [Act.put, List.setIfInBounds_toArray, List.set_cons_zero, List.set_cons_succ]
        refine take_list (i := 40) (v := ?_) rfl (by kernel_rfl) (by kernel_rfl) (by kernel_rfl) (fun _ _ _ h => h) (Or.inl ⟨by rfl, ?_⟩) hH ?_
        rotate_left
        · ((intro w hSw; (try dsimp only at hSw); go_simp); try with_reducible rfl)
        simp only [Act.put, List.setIfInBounds_toArray, List.set_cons_zero, List.set_cons_succ]
        refine take_list (i := 41) (v := ?_) rfl (by kernel_rfl) (by kernel_rfl) (by kernel_rfl) (fun _ _ _ h => h) (Or.inl ⟨by rfl, ?_⟩) hH ?_
        rotate_left
        · ((intro w hSw; (try dsimp only at hSw); go_simp); try with_reducible rfl)
        simp only [Act.put, List.setIfInBounds_toArray, List.set_cons_zero, List.set_cons_succ]
        refine take_list (i := 43) (v := ?_) rfl (by kernel_rfl) (by kernel_rfl) (by kernel_rfl) (fun _ _ _ h => h) (Or.inl ⟨by rfl, ?_⟩) hH ?_
        rotate_left
        · ((intro w hSw; (try dsimp only at hSw); go_simp); try with_reducible rfl)
        simp only [Act.put, List.setIfInBounds_toArray, List.set_cons_zero, List.set_cons_succ]
        refine take_list (i := 44) (v := ?_) rfl (by kernel_rfl) (by kernel_rfl) (by kernel_rfl) (fun _ _ _ h => h) (Or.inl ⟨by rfl, ?_⟩) hH ?_
        rotate_left
        · ((intro w hSw; (try dsimp only at hSw); go_simp); try with_reducible rfl)
        simp only [Act.put, List.setIfInBounds_toArray, List.set_cons_zero, List.set_cons_succ]
        refine take_list (i := 45) (v := ?_) rfl (by kernel_rfl) (by kernel_rfl) (by kernel_rfl) (fun _ _ _ h => h) (Or.inl ⟨by rfl, ?_⟩) hH ?_
        rotate_left
        · ((intro w hSw; (try dsimp only at hSw); go_simp); try with_reducible rfl)
        simp only [Act.put, List.setIfInBounds_toArray, List.set_cons_zero, List.set_cons_succ]
        refine take_list (i := 46) (v := ?_) rfl (by kernel_rfl) (by kernel_rfl) (by kernel_rfl) (fun _ _ _ h => h) (Or.inl ⟨by rfl, ?_⟩) hH ?_
        rotate_left
        · ((intro w hSw; (try dsimp only at hSw); go_simp); try with_reducible rfl)
        simp only [Act.put, List.setIfInBounds_toArray, List.set_cons_zero, List.set_cons_succ]
        refine take_list (i := 47) (v := ?_) rfl (by kernel_rfl) (by kernel_rfl) (by kernel_rfl) (fun _ _ _ h => h) (Or.inl ⟨by rfl, ?_⟩) hH ?_
        rotate_left
        · ((intro w hSw; (try dsimp only at hSw); go_simp); try with_reducible rfl)
        simp only [Act.put, List.setIfInBounds_toArray, List.set_cons_zero, List.set_cons_succ]
        refine wpAnyH_ready (rs := [42]) (by kernel_rfl) (by simp) ?_
        refine ready_list rfl (fun K hK => ?_)
        go_simp
        refine (size_st P12.out.st (R9.n : Int) M9.out.size).mono ?_
        rintro e w' ⟨rfl, rfl⟩
        refine hK.out _ _ hH (fun hH => ?_)
        clear hK K
        refine take_list (i := 48) (v := ?_) rfl (by kernel_rfl) (by kernel_rfl) (by kernel_rfl) (fun _ _ _ h => h) (Or.inl ⟨by rfl, ?_⟩) hH ?_
        rotate_left
        · ((intro w hSw; (try dsimp only at hSw); go_simp); try with_reducible rfl)
        simp only [Act.put, List.setIfInBounds_toArray, List.set_cons_zero, List.set_cons_succ]
        refine take_list (i := 49) (v := ?_) rfl (by kernel_rfl) (by kernel_rfl) (by kernel_rfl) (fun _ _ _ h => h) (Or.inl ⟨by rfl, ?_⟩) hH ?_
        rotate_left
        · ((intro w hSw; (try dsimp only at hSw); go_simp); try with_reducible rfl)
        simp only [Act.put, List.setIfInBounds_toArray, List.set_cons_zero, List.set_cons_succ]
        refine wpAnyH_done (by kernel_rfl) ?_ _
        clear hH
        go_wp2_with fail
        go_roundw
        case rel => exact ⟨k + 1, _, _, by omega, by go_num, P12.out, M9.out⟩
        case measure => simp [intOf]; omega
      · obtain rfl : k = os.length := by omega
        have c7 : wr.cell? ⟨b.p, 7, none⟩ = some (.bool R.down) := P5.out.ref.c7
        cases hd : R.down
        rotate_left
        · rw [hd] at c7
          clear hd
          go_wp2_with fail
          go_ret
          exact ⟨rfl, HO1.out.trans P5.out.st.only (by simp)⟩
        rw [hd] at c7
        have HD := Lib.hid hd
        clear hd
        go_wp2_with fail
        clear c7
        go_loopw [11, 12, 13] (fun i _ _ wr => ∃ k : Nat, k ≤ R.n ∧ i = .int .i64 k ∧ Pair w1 wr [] a b D R) (fun i _ _ _ => R.n - (intOf i).toNat)
        case atStart => exact ⟨0, by omega, rfl, P5.out⟩
        case round =>
          clear P5
          obtain ⟨k, hk, rfl, p6⟩ := hrel
          have c0 : wr.cell? ⟨b.p, 0, none⟩ = some (.slice (some ⟨b.gN, 0, none⟩) R.n b.cN) := p6.ref.c0
          have P6 := Lib.hid p6
          clear p6
          have k0 : (0 : Int) ≤ (k : Int) := by omega
          by_cases hlt : k < R.n
          · have k1 : (k : Int) < (R.n : Int) := by omega
            by_cases h64 : (k : Int) < 64
            · go_wp2_with fail
              clear c0
              refine (read_st (k : Int) P6.out.st (by rw [M5.out.size]; exact inB_iff.2 ⟨k0, k1⟩) (by rw [M5.out.down]; exact HD.out) (R.now k) (M5.out.now k hlt)).mono ?_
              rintro e w7 ⟨g7, rfl, b7, _, _, o7⟩
              have P7 := Lib.hid ((P6.out.quiet o7).quiet ((Only.refl [] w7).drew))
              clear o7 P6
              obtain ⟨S, hS⟩ : ∃ S, S = strOf (R.now k) := ⟨_, rfl⟩
              obtain ⟨v7, hv7, hr7⟩ := P7.out.ref.row hlt
              have h512 := hr7.len
              obtain ⟨gr, capr, rfl⟩ := hr7.shape
              have s1 := str_bytes hr7.bytes hS
              have s2 := str_of (show BBlk w7.drew g7 (R.now k) from b7) h512 hS
              have c0 : w7.drew.cell? ⟨b.p, 0, none⟩ = some (.slice (some ⟨b.gN, 0, none⟩) R.n b.cN) := P7.out.ref.c0
              clear b7 hr7 h512 hS
              go_wp2_with fail
              refine wp_region_held_drew (S := fun w' => w'.cell? ⟨b.p, 0, none⟩ = some (.slice (some ⟨b.gN, 0, none⟩) R.n b.cN) ∧ w'.cell? ⟨b.gN, k, none⟩ = some (.slice (some ⟨gr, 0, none⟩) 512 capr) ∧ (convert 34 9 (.slice (some ⟨gr, 0, none⟩) 512 capr)).run Try.prog w' = .ok (.string S) w' ∧ (convert 34 9 (.slice (some ⟨g7, 0, none⟩) 512 512)).run Try.prog w' = .ok (.string S) w') (by kernel_rfl) ⟨c0, hv7, s1, s2⟩ (fun hH => ?_)
              refine take_list (i := 0) (v := ?_) rfl (by kernel_rfl) (by kernel_rfl) (by kernel_rfl) (fun _ _ _ h => h) (Or.inl ⟨by rfl, ?_⟩) hH ?_
              rotate_left
              · ((intro w hSw; (try dsimp only at hSw); go_simp); try with_reducible rfl)
              simp only [Act.put, List.setIfInBounds_toArray, List.set_cons_zero, List.set_cons_succ]
              refine take_list (i := 1) (v := ?_) rfl (by kernel_rfl) (by kernel_rfl) (by kernel_rfl) (fun _ _ _ h => h) (Or.inl ⟨by rfl, ?_⟩) hH ?_
              rotate_left
              · ((intro w hSw; (try dsimp only at hSw); go_simp); try with_reducible rfl)
              simp only [Act.put, List.setIfInBounds_toArray, List.set_cons_zero, List.set_cons_succ]
              refine take_list (i := 2) (v := ?_) rfl (by kernel_rfl) (by kernel_rfl) (by kernel_rfl) (fun _ _ _ h => h) (Or.inl ⟨by rfl, ?_⟩) hH ?_
              rotate_left
              · ((intro w hSw; (try dsimp only at hSw); go_simp); try with_reducible rfl)
              simp only [Act.put, List.setIfInBounds_toArray, List.set_cons_zero, List.set_cons_succ]
              refine take_list (i := 3) (v := ?_) rfl (by kernel_rfl) (by kernel_rfl) (by kernel_rfl) (fun _ _ _ h => h) (Or.inl ⟨by rfl, ?_⟩) hH ?_
              rotate_left
              · ((intro w hSw; (try dsimp only at hSw); go_simp); try with_reducible rfl)
              simp only [Act.put, List.setIfInBounds_toArray, List.set_cons_zero, List.set_cons_succ]
              refine take_list (i := 5) (v := ?_) rfl (by kernel_rfl) (by kernel_rfl) (by kernel_rfl) (fun _ _ _ h => h) (Or.inl ⟨by rfl, ?_⟩) hH ?_
              rotate_left
              · ((intro w hSw; (try dsimp only at hSw); go_simp); try with_reducible rfl)
              simp only [Act.put, List.setIfInBounds_toArray, List.set_cons_zero, List.set_cons_succ]
              refine take_list (i := 6) (v := ?_) rfl (by kernel_rfl) (by kernel_rfl) (by kernel_rfl) (fun _ _ _ h => h) (Or.inl ⟨by rfl, ?_⟩) hH ?_
              rotate_left
              · ((intro w hSw; (try dsimp only at hSw); go_simp); try with_reducible rfl)
              simp only [Act.put, List.setIfInBounds_toArray, List.set_cons_zero, List.set_cons_succ]
              refine take_list (i := 7) (v := ?_) rfl (by kernel_rfl) (by kernel_rfl) (by kernel_rfl) (fun _ _ _ h => h) (Or.inl ⟨by rfl, ?_⟩) hH ?_
              rotate_left
              · ((intro w hSw; (try dsimp only at hSw); go_simp); try with_reducible rfl)
              simp only [Act.put, List.setIfInBounds_toArray, List.set_cons_zero, List.set_cons_succ]
              refine take_list (i := 8) (v := ?_) rfl (by kernel_rfl) (by kernel_rfl) (by kernel_rfl) (fun _ _ _ h => h) (Or.inl ⟨by rfl, ?_⟩) hH ?_
              rotate_left
              · ((intro w hSw; (try dsimp only at hSw); go_simp); try with_reducible rfl)
              simp only [Act.put, List.setIfInBounds_toArray, List.set_cons_zero, List.set_cons_succ]
              refine take_list (i := 9) (v := ?_) rfl (by kernel_rfl) (by kernel_rfl) (by kernel_rfl) (fun _ _ _ h => h) (Or.inl ⟨by rfl, ?_⟩) hH ?_
              rotate_left
              · ((intro w hSw; (try dsimp only at hSw); go_simp); try with_reducible rfl)
              simp only [Act.put, List.setIfInBounds_toArray, List.set_cons_zero, List.set_cons_succ]
              refine take_list (i := 10) (v := ?_) rfl (by kernel_rfl) (by kernel_rfl) (by kernel_rfl) (fun _ _ _ h => h) (Or.inl ⟨by rfl, ?_⟩) hH ?_
              rotate_left
              · ((intro w hSw; (try dsimp only at hSw); go_simp); try with_reducible rfl)
              simp only [Act.put, List.setIfInBounds_toArray, List.set_cons_zero, List.set_cons_succ]
              refine take_list (i := 11) (v := ?_) rfl (by kernel_rfl) (by kernel_rfl) (by kernel_rfl) (fun _ _ _ h => h) (Or.inl ⟨by rfl, ?_⟩) hH ?_
              rotate_left
              · ((intro w hSw; (try dsimp only at hSw); go_simp); try with_reducible rfl)
              simp only [Act.put, List.setIfInBounds_toArray, List.set_cons_zero, List.set_cons_succ]
              refine wpAnyH_ready (rs := [4, 12]) (by kernel_rfl) (by simp) ?_
              refine ready_two rfl rfl (fun K hK => ?_) (fun K hK => ?_) <;> go_simp
              ·
                refine hK.out _ _ hH (fun hH => ?_)
                clear hK K
                refine wpAnyH_ready (rs := [12]) (by kernel_rfl) (by simp) ?_
                refine ready_list rfl (fun K hK => ?_)
                go_simp
                refine hK.out _ _ hH (fun hH => ?_)
                clear hK K
                refine take_list (i := 13) (v := ?_) rfl (by kernel_rfl) (by kernel_rfl) (by kernel_rfl) (fun _ _ _ h => h) (Or.inl ⟨by rfl, ?_⟩) hH ?_
                rotate_left
                · ((intro w hSw; (try dsimp only at hSw); go_simp); try with_reducible rfl)
                simp only [Act.put, List.setIfInBounds_toArray, List.set_cons_zero, List.set_cons_succ]
                refine take_list (i := 14) (v := ?_) rfl (by kernel_rfl) (by kernel_rfl) (by kernel_rfl) (fun _ _ _ h => h) (Or.inl ⟨by rfl, ?_⟩) hH ?_
                rotate_left
                · ((intro w hSw; (try dsimp only at hSw); go_simp); try with_reducible rfl)
                simp only [Act.put, List.setIfInBounds_toArray, List.set_cons_zero, List.set_cons_succ]
                refine wpAnyH_done (by kernel_rfl) ?_ _
                clear hH s1 s2 c0 hv7
                go_wp2_with fail
                go_roundw
                case rel => exact ⟨k + 1, by omega, by go_num, P7.out⟩
                case measure => simp [intOf]; omega
              ·
                refine hK.out _ _ hH (fun hH => ?_)
                clear hK K
                refine wpAnyH_ready (rs := [4]) (by kernel_rfl) (by simp) ?_
                refine ready_list rfl (fun K hK => ?_)
                go_simp
                refine hK.out _ _ hH (fun hH => ?_)
                clear hK K
                refine take_list (i := 13) (v := ?_) rfl (by kernel_rfl) (by kernel_rfl) (by kernel_rfl) (fun _ _ _ h => h) (Or.inl ⟨by rfl, ?_⟩) hH ?_
                rotate_left
                · ((intro w hSw; (try dsimp only at hSw); go_simp); try with_reducible rfl)
                simp only [Act.put, List.setIfInBounds_toArray, List.set_cons_zero, List.set_cons_succ]
                refine take_list (i := 14) (v := ?_) rfl (by kernel_rfl) (by kernel_rfl) (by kernel_rfl) (fun _ _ _ h => h) (Or.inl ⟨by rfl, ?_⟩) hH ?_
                rotate_left
                · ((intro w hSw; (try dsimp only at hSw); go_simp); try with_reducible rfl)
                simp only [Act.put, List.setIfInBounds_toArray, List.set_cons_zero, List.set_cons_succ]
                refine wpAnyH_done (by kernel_rfl) ?_ _
                clear hH s1 s2 c0 hv7
                go_wp2_with fail
                go_roundw
                case rel => exact ⟨k + 1, by omega, by go_num, P7.out⟩
                case measure => simp [intOf]; omega
            · go_wp2_with fail
              go_ret
              exact ⟨rfl, HO1.out.trans P6.out.st.only (by simp)⟩
          · obtain rfl : k = R.n := by omega
            go_wp2_with fail
            go_ret
            exact ⟨rfl, HO1.out.trans P6.out.st.only (by simp)⟩

set_option maxRecDepth 100000 in
theorem plays_lifted (os : Os) (started : os.Started) (H : Type) (enc : TypeId × Value → H) :
    ReturnsInHanded {} Try.checked os 3 .any (Rows.diskPlaysSpec.pre6 enc Try.prog Try.f3 Rows.diskPlaysRow.domain false) (Rows.diskPlaysSpec.post enc Try.prog Try.f3 false true false false) := by
  refine returnsInHanded_of_change (C := Try.checked) law_own started (by kernel_rfl) Try.func3
    (ChangeSpec.witness6 (enc := enc) (C := Try.checked) false ⟨#[], #[.int .i64 0, .slice none 0 0], []⟩ 8 (by kernel_rfl) (by kernel_rfl) (by kernel_rfl) (by kernel_rfl)) ?_
  intro W base args ds gs before hval0 hW hcnd _
  have hval : ∀ (j : Nat) t v, Try.f3.params[j]? = some t → args[j]? = some v → Value.okWide Try.prog W .any base t v := hval0
  have hW' := hW
  obtain ⟨p, q, hA0, hV, rfl, hfz, hnd⟩ := hW
  have hA : DataW.TrodAll enc Try.prog W 0 (fun _ => true) true Try.f3.params.toList args.toList ds p := hA0
  rw [Try.params3] at hA hval
  obtain ⟨v0, vs0, d0, ds0, p0, q0, hargs, rfl, rfl, h0, r0⟩ := trodAll_cons hA
  obtain ⟨v1, vs1, d1, ds1, p1, q1, rfl, rfl, rfl, h1, r1⟩ := trodAll_cons r0
  obtain ⟨rfl, rfl, rfl⟩ := trodAll_nil r1
  obtain rfl : args = #[v0, v1] := by cases args; simp_all
  obtain ⟨rfl, rfl⟩ := trodVars_none hV
  obtain ⟨a0, rfl, rfl, rfl, w0⟩ := open_int Try.underlying3 (hval 0 3 v0 rfl rfl) h0
  obtain ⟨sa1, sl1, sc1, rfl⟩ := okWide_slice Try.underlying22 (hval 1 22 v1 rfl rfl)
  have h1' := h1
  obtain ⟨fuel1, hf1⟩ := h1
  obtain ⟨l1, hs1, hl1⟩ := open_script (v := .slice sa1 sl1 sc1) hf1
  have hlt1 : ∀ x ∈ p1, x.block < W.heap.size := fun x hx => hW'.lt x (by simp [hx])
  clear hA0 hval0
  refine (plays_walk a0 _ l1 W w0 hs1 hl1).mono fun e W' ⟨he, hg⟩ => ?_
  subst he
  exact ⟨_, rfl, post_quiet (pa := ([] ++ (p1 ++ []))) (pv := []) hW' hg (fun _ _ _ => (trodAll_cons_mk (shut_bool Try.underlying4 _) trodAll_mk0)) (fun sp hsp => (trodAll_cons_mk (shut_int Try.underlying3 w0) (trodAll_cons_mk (arg_stays (by kernel_rfl) (of_decide_eq_true (by kernel_rfl)) h1' hg hlt1 (fun x hx => hsp x (by simp [hx]))) trodAll_mk0))) (fun _ _ => rfl) (by simp) (ok_one (by kernel_rfl) rfl (okWide_bool_mk Try.underlying4 _))⟩

theorem plays_over : Rows.diskPlaysRow.holds Try.pinned (OpenSpec.ofChange Rows.diskPlaysSpec) :=
  OpenClaim.holds_of_wide 3 Try.f3 rfl rfl rfl rfl rfl rfl rfl ⟨rfl, rfl, rfl, rfl, rfl⟩ rfl rfl rfl rfl rfl (by kernel_rfl) Try.func3 (by kernel_rfl)
    (of_decide_eq_true (by kernel_rfl)) (by unfold Func.isWrapper; first | (rw [if_pos (by decide +kernel)]; kernel_rfl) | (rw [if_neg (by decide +kernel)]; exact ⟨rfl, rfl⟩))
    (fun os started H enc _ => plays_lifted os started H enc)

/-- The statement. -/
theorem plays_holds : Rows.DiskPlaysSaid :=
  plays_over
#print axioms plays_holds
end Go.Proofs.Ytchljhjngnbclaa
