/- JournalStays: whatever the rounds, each of calls, of a flush that may be cut and of a crash of which any sectors are kept, the law returns true: behind each opening the journal shows just what the law's model has; the arguments read as they did. No condition. -/
import Derived.Test.YtfnedeaemjchgaaGreatJh
namespace Go.Proofs.YtfnedeaemjchgaaGreat
open Go.ChangeShapes Go.WideShapes Go.ChangeAt Go.RowKit Go.Maps Go.Deep
set_option linter.unusedVariables false
set_option linter.unusedSimpArgs false

theorem GS.mono {w0 w : World} {F : List (Nat × Obj)} {m n c c' : Nat} {a : DA} (h : GS w0 w F m a n c) (hc : c ≤ c') (hc' : c' ≤ 100000) : GS w0 w F m a n c' := by
  obtain ⟨p, q, d, j, s, vr, vt, vm, gs, M, h1, h2, h3, h4⟩ := h
  have l1 := h3.len
  have l2 := h3.flat
  have l3 := h3.may
  exact ⟨p, q, d, j, s, vr, vt, vm, gs, M, h1, h2.mono (by omega), ⟨by omega, by omega, by omega, hc'⟩, h4⟩
theorem GS.drop {w0 w : World} {F : List (Nat × Obj)} {m n c : Nat} {a : DA} (h : GS w0 w F m a n c) : GS w0 w [] m a n c := by
  obtain ⟨p, q, d, j, s, vr, vt, vm, gs, M, h1, h2⟩ := h
  exact ⟨p, q, d, j, s, vr, vt, vm, gs, M, h1.over (S := []) (Only.refl _ _) (by simp) (by simp), h2⟩
theorem GS.add {w0 w w1 : World} {F : List (Nat × Obj)} {m n c g : Nat} {a : DA} {o : Obj} (h : GS w0 w F m a n c) (ho : Only [] w w1) (hg : w.heap.size ≤ g) (hc : w1.heap[g]? = some o) : GS w0 w1 ((g, o) :: F) m a n c := by
  obtain ⟨p, q, d, j, s, vr, vt, vm, gs, M, h1, h2⟩ := h
  exact ⟨p, q, d, j, s, vr, vt, vm, gs, M, h1.add ho hg hc, h2⟩
theorem GS.c0 {w0 w : World} {F : List (Nat × Obj)} {m n c : Nat} {a : DA} (h : GS w0 w F m a n c) : w.cell? ⟨m, 0, none⟩ = some (.pointer (some ⟨a.p, 0, none⟩)) := by
  obtain ⟨p, q, d, j, s, vr, vt, vm, gs, M, h1, h2⟩ := h
  exact cell_at 0 h1.mm.blk
theorem arm_all4 {w0 w : World} {F : List (Nat × Obj)} {m n c : Nat} {a : DA} (h : GS w0 w F m a n c) (x : Int) (hx : 0 ≤ x) :
    Calls Tryz.prog 10 #[.pointer (some ⟨a.p, 0, none⟩), .int .i64 x] w fun e w' => e = .returned .nilIface ∧ GS w0 w' F m a n c := by
  obtain ⟨p, q, d, j, s, vr, vt, vm, gs, M, h1, h2, h3, h4⟩ := h
  exact (arm_ms h1 x hx).mono fun e w' ⟨g1, g2⟩ => ⟨g1, p, q, _, j, s, vr, vt, vm, gs, M, g2, h2.arm x, h3, h4⟩
theorem crash_all4 {w0 w : World} {F : List (Nat × Obj)} {m n c : Nat} {a : DA} {kv : Value} {ks : List Int} (h : GS w0 w F m a n c) (hk : IntsV w kv ks) (hkl : ks.length ≤ 1099511627776) :
    Calls Tryz.prog 13 #[.pointer (some ⟨m, 0, none⟩), kv] w fun e w' => e = .returned (.bool true) ∧ GS w0 w' F m a n c := by
  obtain ⟨p, q, d, j, s, vr, vt, vm, gs, M, h1, h2, h3, h4⟩ := h
  refine (mcrash_all h1 h2 h3 hk hkl).mono ?_
  rintro e w' ⟨g1, p2, q2, j2, s2, vr', vt', gs', M', g2, g3, g4, g5⟩
  exact ⟨g1, p2, q2, _, j2, s2, vr', vt', _, gs', M', g2, g3, g4, g5.trans h4⟩
theorem lost_bytes {w : World} {g : Nat} {fr : Nat × Nat} (h : w.heap[g]? = some (.cells #[.int .u8 108, .int .u8 111, .int .u8 115, .int .u8 116, .int .u8 32, .int .u8 111, .int .u8 114, .int .u8 32, .int .u8 110, .int .u8 111, .int .u8 116] 5 fr)) :
    Bytes w (.slice (some ⟨g, 0, none⟩) 11 11) [108, 111, 115, 116, 32, 111, 114, 32, 110, 111, 116] := by
  refine ⟨_, _, rfl, fun i c hi => ⟨g, 0, rfl, ?_⟩⟩
  rw [Nat.zero_add, cell_at i h]
  have hlt := (List.getElem?_eq_some_iff.1 hi).1
  match i, hi with
  | 0, hi | 1, hi | 2, hi | 3, hi | 4, hi | 5, hi | 6, hi | 7, hi | 8, hi | 9, hi | 10, hi => cases hi; rfl
  | n + 11, _ => simp at hlt; omega
set_option maxRecDepth 100000 in
set_option maxHeartbeats 4000000 in
theorem jstays_walk (v : Value) (ss : List (List Op4R)) (w : World) (hs : Scripts4 w v ss) (hl : ss.length ≤ maxLen) :
    Calls Tryz.prog 4 #[v] w fun e w' => e = .returned (.bool true) ∧ Only [] w w' := by
  have HS := Lib.hid hs
  have hl' : ss.length ≤ 9223372036854775807 := by unfold maxLen at hl; omega
  obtain ⟨va, vcap, rfl, -⟩ := hs
  clear hl
  go_enter Tryz.func4, Tryz.ntmps4
  go_wp2_with fail
  refine (alive4_any _).mono ?_
  rintro e w1 ⟨rfl, o1⟩
  have O1 := Lib.hid o1
  clear o1
  by_cases hs2 : (12 : Int) < (ss.length : Int)
  · go_wp2_with fail
    go_ret
    exact ⟨rfl, O1.out⟩
  go_wp2_with fail
  refine (begun_gs 12 w1 (by omega) (by omega)).mono ?_
  rintro e w3 ⟨m, a, rfl, g3⟩
  have G3 := Lib.hid g3
  clear g3
  go_wp2_with fail
  go_loopw [5, 20] (fun _ i wr => ∃ k : Nat, k ≤ ss.length ∧ i = .int .i64 k ∧ Hid (GS w1 wr [] m a 12 (50 * k))) (fun _ i _ => ss.length - (intOf i).toNat)
  case atStart => exact ⟨0, by omega, rfl, G3⟩
  case round =>
    clear G3
    obtain ⟨k, hk, rfl, G5⟩ := hrel
    by_cases hlt : k < ss.length
    · have hkl : ss[k]? = some ss[k] := List.getElem?_eq_getElem hlt
      obtain ⟨a', cap', hv, hc⟩ := (HS.out.kept O1.out).kept G5.out.only
      obtain ⟨bb, off, sv, ha, c0, -, hol⟩ := hc k _ hkl
      obtain ⟨a1, cap1, hv1, hc1⟩ := HS.out.kept O1.out
      obtain ⟨bb1, off1, sv1, ha1, d0, hos, -⟩ := hc1 k _ hkl
      cases hv
      cases hv1
      subst ha
      cases ha1
      obtain rfl : sv = sv1 := Option.some.inj (c0.symm.trans (cell_kept G5.out.only d0 (by simp)))
      clear hc hc1 hkl d0
      generalize ss[k] = os at hos hol
      have HOS := Lib.hid hos
      have HOL := Lib.hid hol
      obtain ⟨sa, scap, rfl, -⟩ := hos
      have k0 : (0 : Int) ≤ (k : Int) := by omega
      have k1 : (k : Int) < (ss.length : Int) := by omega
      have k2 : k ≤ 11 := by omega
      clear hol
      go_wp2_with fail
      refine (long4_any _ os wr (HOS.out.kept G5.out.only) HOL.out).mono ?_
      rintro e w6 ⟨x, rfl, hx, o6⟩
      have G6 := Lib.hid (G5.out.quiet o6)
      clear o6 G5 c0 HOL
      cases x
      rotate_left
      · go_wp2_with fail
        go_ret
        exact ⟨rfl, O1.out.trans G6.out.only (by simp)⟩
      have HX := Lib.hid (hx rfl)
      clear hx
      by_cases h40 : (40 : Int) < (os.length : Int)
      · go_wp2_with fail
        go_ret
        exact ⟨rfl, O1.out.trans G6.out.only (by simp)⟩
      have hol : os.length ≤ 40 := by omega
      go_wp2_with fail
      go_loopw [7, 33] (fun _ i wr => ∃ t : Nat, t ≤ os.length ∧ i = .int .i64 t ∧ Hid (GS w1 wr [] m a 12 (50 * k + t))) (fun _ i _ => os.length - (intOf i).toNat)
      case atStart => exact ⟨0, by omega, rfl, G6⟩
      case round =>
        clear G6
        obtain ⟨t, ht, rfl, G7⟩ := hrel
        by_cases htl : t < os.length
        · have hkl : os[t]? = some os[t] := List.getElem?_eq_getElem htl
          obtain ⟨a', cap', hv, hc⟩ := HOS.out.kept G7.out.only
          obtain ⟨b2, off2, ha, bv, kv, c0, c1, c2, c3, _⟩ := hc t _ hkl
          obtain ⟨a1, cap1, hv1, hc1⟩ := HOS.out
          obtain ⟨b3, off3, ha1, bv1, kv1, d0, d1, d2, d3, hb, _, hkv, _, hwn, _⟩ := hc1 t _ hkl
          cases hv
          cases hv1
          subst ha
          cases ha1
          obtain rfl : bv = bv1 := Option.some.inj (c1.symm.trans (cell_kept G7.out.only d1 (by simp)))
          obtain rfl : kv = kv1 := Option.some.inj (c3.symm.trans (cell_kept G7.out.only d3 (by simp)))
          have HP := Lib.hid (And.intro hb (And.intro hkv (And.intro (wf_hi hwn) (HX.out.2 t _ htl hkl))))
          clear hc hc1 hkl d0 d1 d2 d3 hb hkv hwn
          generalize os[t] = oo at c0 c1 c2 c3 HP
          obtain ⟨kind, lb, n1, ks⟩ := oo
          dsimp only at c0 c1 c2 c3 HP
          have hshb : ∃ (x1 : Option Addr) (q1 : Nat) (x2 : Option Addr) (n2 q2 : Nat), bv = .slice x1 lb.length q1 ∧ kv = .slice x2 n2 q2 := by
            obtain ⟨_, _, e1, _⟩ := HP.out.1
            obtain ⟨_, _, e2, _⟩ := HP.out.2.1
            exact ⟨_, _, _, _, _, e1, e2⟩
          obtain ⟨x1, q1, x2, n2, q2, rfl, rfl⟩ := hshb
          have t0 : (0 : Int) ≤ (t : Int) := by omega
          have t1 : (t : Int) < (os.length : Int) := by omega
          have G8 := Lib.hid (G7.out.quiet ((Only.refl [] wr).alloc (.cells #[.int .i64 kind, .slice x1 lb.length q1, .int .i64 n1, .slice x2 n2 q2] 30)))
          clear G7
          by_cases h7 : kind = 7
          · subst h7
            clear HP
            go_wp2_with fail
            go_roundw
            case rel => exact ⟨t + 1, by omega, by go_num, Lib.hid (G8.out.mono (by omega) (by omega))⟩
            case measure => simp [intOf]; omega
          · go_wp2_with fail
            refine (plays_all G8.out (by omega) (fun w' ho _ => HP.out.1.kept ho (clean_nil _)) (by have := HP.out.2.2.2.1; omega) HP.out.2.2.1 HP.out.2.1 (by have := HP.out.2.2.2.2; omega)).mono ?_
            rintro e w9 ⟨rfl, g9⟩
            have G9 := Lib.hid g9
            clear g9 G8 HP c0 c1 c2 c3
            go_wp2_with fail
            go_roundw
            case rel => exact ⟨t + 1, by omega, by go_num, Lib.hid (G9.out.mono (by omega) (by omega))⟩
            case measure => simp [intOf]; omega
        · obtain rfl : t = os.length := by omega
          obtain ⟨cc, hcc⟩ : ∃ cc, cc = 50 * k + os.length := ⟨_, rfl⟩
          have hcc1 : cc ≤ 50 * k + 40 := by omega
          rw [← hcc] at G7
          have G8 := Lib.hid (G7.out.quiet ((Only.refl [] wr).alloc (.cells #[] 3)))
          have SCR := Lib.hid (HOS.out.kept G8.out.only)
          have c0 : (wr.alloc (.cells #[] 3)).cell? ⟨m, 0, none⟩ = some (.pointer (some ⟨a.p, 0, none⟩)) := G8.out.c0
          clear G7 hcc
          by_cases h00 : os.length = 0
          · have h01 : ¬ (0 : Int) < (os.length : Int) := by omega
            obtain ⟨gk, hgk⟩ : ∃ gk, wr.heap.size = gk := ⟨_, rfl⟩
            have KV : ∀ w', IntsV w' (.slice (some ⟨gk, 0, none⟩) 0 0) [] := fun w' => ⟨_, _, rfl, fun i x hi => by simp at hi⟩
            have HKV := Lib.hid KV
            have hkl : ([] : List Int).length ≤ 1099511627776 := by decide
            clear KV
            go_wp2_with fail
            generalize wr.alloc (.cells #[] 3) = w8 at G8 c0 SCR ⊢
            refine (arm_all4 G8.out 0 (by decide)).mono ?_
            rintro e w9 ⟨rfl, g9⟩
            have G9 := Lib.hid g9
            clear g9 G8 c0 SCR
            have kc := conv_lit w9
            go_wp2_with fail
            clear kc
            have G10 := Lib.hid (G9.out.add ((Only.refl [] w9).alloc _) (Nat.le_refl _) (heap_new w9 (.cells #[.int .u8 108, .int .u8 111, .int .u8 115, .int .u8 116, .int .u8 32, .int .u8 111, .int .u8 114, .int .u8 32, .int .u8 110, .int .u8 111, .int .u8 116] 5 (11, 12))))
            refine (plays_all (nn := 0) G10.out (by omega) (l := [108, 111, 115, 116, 32, 111, 114, 32, 110, 111, 116]) (fun w' _ hF => lost_bytes (hF _ (List.mem_cons_self ..))) (by decide) ⟨by decide, by decide⟩ (ints_nil _) (by decide)).mono ?_
            rintro e w10 ⟨rfl, g10⟩
            obtain ⟨p, q, d, j, s, vr, vt, vm, gs, M, h1, h2, h3, h4⟩ := g10.drop
            have H1 := Lib.hid h1
            have H2 := Lib.hid h2
            have H3 := Lib.hid h3
            have H4 := Lib.hid h4
            have c2 : w10.cell? ⟨m, 2, none⟩ = some (.pointer (some ⟨p, 0, none⟩)) := cell_at 2 h1.mm.blk
            clear g10 G9 G10 h1 h2 h3 h4
            go_wp2_with fail
            have HOK := Lib.hid H1.out.ok
            refine (flush_ms H1.out (H2.out.big H3.out.b1 H3.out.b2)).mono ?_
            rintro e w11 ⟨rfl, m11⟩
            have M11 := Lib.hid m11
            have KF := mflush_all M11.out H2.out HOK.out H3.out (by omega)
            clear m11 H1 c2
            generalize errV (j.flushR d s).c = ev at KF ⊢
            go_wp2_with fail
            refine KF.mono ?_
            rintro e w12 ⟨rfl, M5, m5, r5, b5, n5⟩
            have G12 := Lib.hid (show GS w1 w12 [] m a 12 (cc + 1 + 1) from ⟨p, q, _, _, _, vr, vt, vm, gs, M5, m5, r5, b5, n5.trans H4.out⟩)
            clear m5 r5 b5 n5 M11 KF
            go_wp2_with fail
            refine (crash_all4 G12.out (HKV.out _) hkl).mono ?_
            rintro e w13 ⟨rfl, g13⟩
            have G13 := Lib.hid g13
            clear g13 G12
            go_wp2_with fail
            refine (same_all G13.out).mono ?_
            rintro e w14 ⟨rfl, g14⟩
            have G14 := Lib.hid (g14.mono (show cc + 1 + 1 ≤ 50 * (k + 1) by omega) (by omega))
            clear g14 G13
            go_wp2_with fail
            go_roundw
            case rel => exact ⟨k + 1, by omega, by go_num, G14⟩
            case measure => simp [intOf]; omega
          · have h01 : (0 : Int) < (os.length : Int) := by omega
            have hkl : os[0]? = some os[0] := List.getElem?_eq_getElem (by omega)
            obtain ⟨a', cap', hv, hc⟩ := SCR.out
            obtain ⟨b2, off2, ha, bv, kv, d0, d1, d2, d3, _, _, hkv, _, hwn, _, _⟩ := hc 0 _ hkl
            obtain ⟨a1, cap1, hv1, hc1⟩ := HOS.out
            obtain ⟨b3, off3, ha1, bv1, kv1, e0, e1, e2, e3, _, _, hkv1, _, _, _⟩ := hc1 0 _ hkl
            cases hv
            cases hv1
            subst ha
            cases ha1
            obtain rfl : kv = kv1 := Option.some.inj (d3.symm.trans (cell_kept G8.out.only e3 (by simp)))
            have HKV := Lib.hid hkv1
            have hkb := (HX.out.2 0 _ (by omega) hkl).2
            clear hc hc1 hkl e0 e1 e2 e3 d0 d1 hkv hkv1
            generalize os[0] = oo at d2 d3 HKV hwn hkb
            obtain ⟨kind, lb, n1, ks⟩ := oo
            dsimp only at d2 d3 HKV hwn hkb
            have hkl : ks.length ≤ 1099511627776 := by omega
            obtain ⟨tt, htt, et⟩ := modU n1 5 (by decide) (by decide)
            obtain ⟨ka, kc, rfl, -⟩ := id HKV.out
            have ob0 : (0 : Int) < (os.length : Int) := h01
            go_wp2_with fail
            generalize wr.alloc (.cells #[] 3) = w7 at G8 c0 SCR d2 d3 ⊢
            have oE : Only [] w7 w7.drew := (Only.refl [] w7).drew
            have d2 : w7.drew.cell? ⟨b2, off2 + 2, none⟩ = some (.int .i64 n1) := cell_kept oE (by simpa using d2) (by simp)
            have d3 : w7.drew.cell? ⟨b2, off2 + 3, none⟩ = some (.slice ka ks.length kc) := cell_kept oE (by simpa using d3) (by simp)
            have G8 := Lib.hid (G8.out.quiet oE)
            have SCR := Lib.hid (SCR.out.kept oE)
            have c0 : w7.drew.cell? ⟨m, 0, none⟩ = some (.pointer (some ⟨a.p, 0, none⟩)) := cell_kept oE c0 (by simp)
            have os0 : (0 : Int) < (os.length : Int) := h01
            refine wp_region_held_drew (S := fun w' => (w'.cell? ⟨b2, off2 + 2, none⟩ = some (.int .i64 n1) ∧ w'.cell? ⟨b2, off2 + 3, none⟩ = some (.slice ka ks.length kc))) (by kernel_rfl) ⟨d2, d3⟩ (fun hH => ?_)
            clear d2 d3 oE
            generalize w7.drew = w8 at G8 c0 SCR hH ⊢
            refine take_list (i := 0) (v := ?_) rfl (by kernel_rfl) (by kernel_rfl) (by kernel_rfl) (fun _ _ _ h => h) (Or.inl ⟨by rfl, ?_⟩) hH ?_
            rotate_left
            · ((intro w hSw; (try dsimp only at hSw); go_simp); try with_reducible rfl)
            simp only [Act.put, List.setIfInBounds_toArray, List.set_cons_zero, List.set_cons_succ]
            refine take_list (i := 1) (v := ?_) rfl (by kernel_rfl) (by kernel_rfl) (by kernel_rfl) (fun _ _ _ h => h) (Or.inl ⟨by rfl, ?_⟩) hH ?_
            rotate_left
            · ((intro w hSw; (try dsimp only at hSw); go_simp); try with_reducible rfl)
            simp only [Act.put, List.setIfInBounds_toArray, List.set_cons_zero, List.set_cons_succ]
            refine take_list (i := 2) (v := ?_) rfl (by kernel_rfl) (by kernel_rfl) (by kernel_rfl) (fun _ _ _ h => h) (Or.inl ⟨by rfl, ?_⟩) hH ?_
            rotate_left
            · ((intro w hSw; (try dsimp only at hSw); go_simp); try with_reducible rfl)
            simp only [Act.put, List.setIfInBounds_toArray, List.set_cons_zero, List.set_cons_succ]
            refine take_list (i := 3) (v := ?_) rfl (by kernel_rfl) (by kernel_rfl) (by kernel_rfl) (fun _ _ _ h => h) (Or.inl ⟨by rfl, ?_⟩) hH ?_
            rotate_left
            · ((intro w hSw; (try dsimp only at hSw); go_simp); try with_reducible rfl)
            simp only [Act.put, List.setIfInBounds_toArray, List.set_cons_zero, List.set_cons_succ]
            refine take_list (i := 4) (v := ?_) rfl (by kernel_rfl) (by kernel_rfl) (by kernel_rfl) (fun _ _ _ h => h) (Or.inl ⟨by rfl, ?_⟩) hH ?_
            rotate_left
            · ((intro w hSw; (try dsimp only at hSw); go_simp); try with_reducible rfl)
            simp only [Act.put, List.setIfInBounds_toArray, List.set_cons_zero, List.set_cons_succ]
            refine take_list (i := 5) (v := ?_) rfl (by kernel_rfl) (by kernel_rfl) (by kernel_rfl) (fun _ _ _ h => h) (Or.inl ⟨by rfl, ?_⟩) hH ?_
            rotate_left
            · ((intro w hSw; (try dsimp only at hSw); go_simp); try with_reducible rfl)
            simp only [Act.put, List.setIfInBounds_toArray, List.set_cons_zero, List.set_cons_succ]
            refine take_list (i := 6) (v := ?_) rfl (by kernel_rfl) (by kernel_rfl) (by kernel_rfl) (fun _ _ _ h => h) (Or.inl ⟨by rfl, ?_⟩) hH ?_
            rotate_left
            · ((intro w hSw; (try dsimp only at hSw); go_simp); try with_reducible rfl)
            simp only [Act.put, List.setIfInBounds_toArray, List.set_cons_zero, List.set_cons_succ]
            refine take_list (i := 7) (v := ?_) rfl (by kernel_rfl) (by kernel_rfl) (by kernel_rfl) (fun _ _ _ h => h) (Or.inl ⟨by rfl, ?_⟩) hH ?_
            rotate_left
            · ((intro w hSw; (try dsimp only at hSw); go_simp); try with_reducible rfl)
            simp only [Act.put, List.setIfInBounds_toArray, List.set_cons_zero, List.set_cons_succ]
            refine take_list (i := 8) (v := ?_) rfl (by kernel_rfl) (by kernel_rfl) (by kernel_rfl) (fun _ _ _ h => h) (Or.inl ⟨by rfl, ?_⟩) hH ?_
            rotate_left
            · ((intro w hSw; (try dsimp only at hSw); go_simp); try with_reducible rfl)
            simp only [Act.put, List.setIfInBounds_toArray, List.set_cons_zero, List.set_cons_succ]
            refine take_list (i := 9) (v := ?_) rfl (by kernel_rfl) (by kernel_rfl) (by kernel_rfl) (fun _ _ _ h => h) (Or.inl ⟨by rfl, ?_⟩) hH ?_
            rotate_left
            · ((intro w hSw; (try dsimp only at hSw); go_simp); try with_reducible rfl)
            simp only [Act.put, List.setIfInBounds_toArray, List.set_cons_zero, List.set_cons_succ]
            refine take_list (i := 10) (v := ?_) rfl (by kernel_rfl) (by kernel_rfl) (by kernel_rfl) (fun _ _ _ h => h) (Or.inl ⟨by rfl, ?_⟩) hH ?_
            rotate_left
            · ((intro w hSw; (try dsimp only at hSw); go_simp); try with_reducible rfl)
            simp only [Act.put, List.setIfInBounds_toArray, List.set_cons_zero, List.set_cons_succ]
            refine take_list (i := 11) (v := ?_) rfl (by kernel_rfl) (by kernel_rfl) (by kernel_rfl) (fun _ _ _ h => h) (Or.inl ⟨by rfl, ?_⟩) hH ?_
            rotate_left
            · ((intro w hSw; (try dsimp only at hSw); go_simp); try with_reducible rfl)
            simp only [Act.put, List.setIfInBounds_toArray, List.set_cons_zero, List.set_cons_succ]
            refine take_list (i := 12) (v := ?_) rfl (by kernel_rfl) (by kernel_rfl) (by kernel_rfl) (fun _ _ _ h => h) (Or.inl ⟨by rfl, ?_⟩) hH ?_
            rotate_left
            · ((intro w hSw; (try dsimp only at hSw); go_simp); try with_reducible rfl)
            simp only [Act.put, List.setIfInBounds_toArray, List.set_cons_zero, List.set_cons_succ]
            refine wpAnyH_done (by kernel_rfl) ?_ _
            clear hH
            go_wp2_with fail
            refine (arm_all4 G8.out (tt : Int) (by omega)).mono ?_
            rintro e w9 ⟨rfl, g9⟩
            have G9 := Lib.hid g9
            clear g9 G8 c0 SCR
            have kc := conv_lit w9
            go_wp2_with fail
            clear kc
            have G10 := Lib.hid (G9.out.add ((Only.refl [] w9).alloc _) (Nat.le_refl _) (heap_new w9 (.cells #[.int .u8 108, .int .u8 111, .int .u8 115, .int .u8 116, .int .u8 32, .int .u8 111, .int .u8 114, .int .u8 32, .int .u8 110, .int .u8 111, .int .u8 116] 5 (11, 12))))
            refine (plays_all (nn := 0) G10.out (by omega) (l := [108, 111, 115, 116, 32, 111, 114, 32, 110, 111, 116]) (fun w' _ hF => lost_bytes (hF _ (List.mem_cons_self ..))) (by decide) ⟨by decide, by decide⟩ (ints_nil _) (by decide)).mono ?_
            rintro e w10 ⟨rfl, g10⟩
            obtain ⟨p, q, d, j, s, vr, vt, vm, gs, M, h1, h2, h3, h4⟩ := g10.drop
            have H1 := Lib.hid h1
            have H2 := Lib.hid h2
            have H3 := Lib.hid h3
            have H4 := Lib.hid h4
            have c2 : w10.cell? ⟨m, 2, none⟩ = some (.pointer (some ⟨p, 0, none⟩)) := cell_at 2 h1.mm.blk
            clear g10 G9 G10 h1 h2 h3 h4
            go_wp2_with fail
            have HOK := Lib.hid H1.out.ok
            refine (flush_ms H1.out (H2.out.big H3.out.b1 H3.out.b2)).mono ?_
            rintro e w11 ⟨rfl, m11⟩
            have M11 := Lib.hid m11
            have KF := mflush_all M11.out H2.out HOK.out H3.out (by omega)
            clear m11 H1 c2
            generalize errV (j.flushR d s).c = ev at KF ⊢
            go_wp2_with fail
            refine KF.mono ?_
            rintro e w12 ⟨rfl, M5, m5, r5, b5, n5⟩
            have G12 := Lib.hid (show GS w1 w12 [] m a 12 (cc + 1 + 1) from ⟨p, q, _, _, _, vr, vt, vm, gs, M5, m5, r5, b5, n5.trans H4.out⟩)
            clear m5 r5 b5 n5 M11 KF
            go_wp2_with fail
            refine (crash_all4 G12.out (HKV.out.kept G12.out.only (fun _ _ _ _ _ => by simp)) hkl).mono ?_
            rintro e w13 ⟨rfl, g13⟩
            have G13 := Lib.hid g13
            clear g13 G12
            go_wp2_with fail
            refine (same_all G13.out).mono ?_
            rintro e w14 ⟨rfl, g14⟩
            have G14 := Lib.hid (g14.mono (show cc + 1 + 1 ≤ 50 * (k + 1) by omega) (by omega))
            clear g14 G13
            go_wp2_with fail
            go_roundw
            case rel => exact ⟨k + 1, by omega, by go_num, G14⟩
            case measure => simp [intOf]; omega
    · obtain rfl : k = ss.length := by omega
      go_wp2_with fail
      go_ret
      exact ⟨rfl, O1.out.trans G5.out.only (by simp)⟩

set_option maxRecDepth 100000 in
theorem jstays_lifted (os : Os) (started : os.Started) (H : Type) (enc : TypeId × Value → H) :
    ReturnsInHanded {} Tryz.checked os 4 .any (Rows.journalStaysSpec.pre6 enc Tryz.prog Tryz.f4 Rows.journalStaysRow.domain false) (Rows.journalStaysSpec.post enc Tryz.prog Tryz.f4 false true false false) := by
  refine returnsInHanded_of_change (C := Tryz.checked) law_own started (by kernel_rfl) Tryz.func4
    (ChangeSpec.witness6 (enc := enc) (C := Tryz.checked) false ⟨#[], #[.slice none 0 0], []⟩ 8 (by kernel_rfl) (by kernel_rfl) (by kernel_rfl) (by kernel_rfl)) ?_
  intro W base args ds gs before hval0 hW hcnd _
  have hval : ∀ (j : Nat) t v, Tryz.f4.params[j]? = some t → args[j]? = some v → Value.okWide Tryz.prog W .any base t v := hval0
  have hW' := hW
  obtain ⟨p, q, hA0, hV, rfl, hfz, hnd⟩ := hW
  have hA : DataW.TrodAll enc Tryz.prog W 0 (fun _ => true) true Tryz.f4.params.toList args.toList ds p := hA0
  rw [Tryz.params4] at hA hval
  obtain ⟨v0, vs0, d0, ds0, p0, q0, hargs, rfl, rfl, h0, r0⟩ := trodAll_cons hA
  obtain ⟨rfl, rfl, rfl⟩ := trodAll_nil r0
  obtain rfl : args = #[v0] := by cases args; simp_all
  obtain ⟨rfl, rfl⟩ := trodVars_none hV
  have h0' := h0
  obtain ⟨sa0, sl0, sc0, rfl⟩ := okWide_slice Tryz.underlying33 (hval 0 33 v0 rfl rfl)
  obtain ⟨fuel0, hf0⟩ := h0
  obtain ⟨l0, hs0, hl0⟩ := open_scripts4 (v := .slice sa0 sl0 sc0) hf0
  have hlt0 : ∀ x ∈ p0, x.block < W.heap.size := fun x hx => hW'.lt x (by simp [hx])
  clear hA0 hval0
  refine (jstays_walk _ l0 W hs0 hl0).mono fun e W' ⟨he, hg⟩ => ?_
  subst he
  exact ⟨_, rfl, post_quiet (pa := (p0 ++ [])) (pv := []) hW' hg (fun _ _ _ => (trodAll_cons_mk (shut_bool Tryz.underlying4 _) trodAll_mk0)) (fun sp hsp => (trodAll_cons_mk (arg_stays (by kernel_rfl) (of_decide_eq_true (by kernel_rfl)) h0' hg hlt0 (fun x hx => hsp x (by simp [hx]))) trodAll_mk0)) (fun _ _ => rfl) (by simp) (ok_one (by kernel_rfl) rfl (okWide_bool_mk Tryz.underlying4 _))⟩

theorem jstays_over : Rows.journalStaysRow.holds Tryz.pinned (OpenSpec.ofChange Rows.journalStaysSpec) :=
  OpenClaim.holds_of_wide 4 Tryz.f4 rfl rfl rfl rfl rfl rfl rfl ⟨rfl, rfl, rfl, rfl, rfl⟩ rfl rfl rfl rfl rfl (by kernel_rfl) Tryz.func4 (by kernel_rfl)
    (of_decide_eq_true (by kernel_rfl)) (by unfold Func.isWrapper; first | (rw [if_pos (by decide +kernel)]; kernel_rfl) | (rw [if_neg (by decide +kernel)]; exact ⟨rfl, rfl⟩))
    (fun os started H enc _ => jstays_lifted os started H enc)

/-- The statement. -/
theorem jstays_holds : Rows.JournalStaysSaid :=
  jstays_over
#print axioms jstays_holds
end Go.Proofs.YtfnedeaemjchgaaGreat
