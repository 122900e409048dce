/- SlotCuts: whatever the rows, the steps and the sectors that are kept, the law returns true: a Save that is cut leaves the row ahead of it or its own, and one that answered is in force; the argument reads as it did. No condition. -/
import Derived.Test.YtdmkmjlkogkmgaaT7
namespace Go.Proofs.Ytdmkmjlkogkmgaa
open Go.ChangeShapes Go.WideShapes Go.ChangeAt Go.RowKit Go.Maps Go.Deep
set_option linter.unusedVariables false
set_option linter.unusedSimpArgs false

section
variable {H : Type} {enc : TypeId × Value → H} {W : World} {base : Nat} {sp : Nat → Bool} {held : Bool}
theorem cells_row : Try.prog.cellsOf 37 = 1 := by kernel_rfl
theorem open_parts {fuel : Nat} {v : Value} {x : DataW H × List MemPlace} (h : DataW.trod enc Try.prog W base sp held fuel 43 [v] = some x) : ∃ ls : List Sec, Parts W v ls ∧ Fit v ∧ ls.length ≤ maxLen ∧ ∀ l ∈ ls, l.length ≤ maxLen := by
  obtain ⟨a, len, cap, rfl, hlen, hi⟩ := open_row Try.underlying43 cells_row h
  have hex : ∀ i, ∃ q : Sec, (i < len → ∃ b off s, a = some ⟨b, off, none⟩ ∧ W.cell? ⟨b, off + i, none⟩ = some s ∧ Bytes W s q) ∧ q.length ≤ maxLen := fun i => by
    by_cases hil : i < len
    · obtain ⟨b, off, u, n, y, ha, hc, ht⟩ := hi i hil
      obtain ⟨l, hb, _, hl⟩ := open_bytes (v := u) (x := y) ht
      exact ⟨l, fun _ => ⟨b, off, u, ha, hc, hb⟩, hl⟩
    · exact ⟨[], fun h => absurd h hil, Nat.zero_le _⟩
  have hlen2 : len ≤ maxLen := Nat.le_trans hlen.1 hlen.2
  generalize hmx : maxLen = mx at *
  have e0 : ((List.range len).map fun i => (hex i).choose).length = len := by rw [List.length_map, List.length_range]
  refine ⟨(List.range len).map fun i => (hex i).choose, ⟨a, cap, by rw [e0], fun i l hil => ?_⟩, (fun a' n' c' e => ?_), by rw [e0]; exact hlen2, fun l hl => ?_⟩
  · have hlt : i < len := by simpa using (List.getElem?_eq_some_iff.1 hil).1
    rw [List.getElem?_map, List.getElem?_range hlt, Option.map_some] at hil
    rw [← Option.some.inj hil]
    exact (hex i).choose_spec.1 hlt
  · cases e
    rw [hmx]
    exact hlen
  · obtain ⟨i, _, rfl⟩ := List.mem_map.1 hl
    exact (hex i).choose_spec.2
set_option maxRecDepth 100000 in
theorem open_cut {r : Reach} {b0 : Nat} {v : Value} {d : DataW H} {p : List MemPlace} (hv : Value.okWide Try.prog W r b0 45 v) (h : DataW.Trod enc Try.prog W base sp held 45 v d p) :
    ∃ (rv : Value) (ls : List Sec) (arm : Int) (kv : Value) (ks : List Int), v = .agg #[rv, .int .i64 arm, kv] ∧ Parts W rv ls ∧ Fit rv ∧ ls.length ≤ maxLen ∧ (∀ l ∈ ls, l.length ≤ maxLen) ∧ (Lit.int .i64 arm).wf = true ∧ IntsV W kv ks ∧ ks.length ≤ maxLen := by
  obtain ⟨v0, v1, v2, y0, y1, y2, n, rfl, _, _, h0, h1, h2⟩ := Go.Joins.open_agg3 Try.underlying45 (by kernel_rfl) (by kernel_rfl) hv h
  obtain ⟨ls, hp, hf, hl, hm⟩ := open_parts (v := v0) (x := y0) h0
  obtain ⟨k, rfl, wk⟩ := open_num (u := v1) (x := y1) h1
  obtain ⟨ks, hk, _, hkl⟩ := open_nums (v := v2) (x := y2) h2
  exact ⟨v0, ls, k, v2, ks, rfl, hp, hf, hl, hm, wk, hk, hkl⟩
end

theorem elem_rows : Try.prog.underlying 43 = some (.slice (Try.prog.elem 43)) := by kernel_rfl
theorem size_bytes (w : World) : (sizeOf (Try.prog.elem 43)).run Try.prog w = .ok 1 w := by kernel_rfl
/-- rows[:k], as the whole has elements. -/
theorem rows_to {g off vc n : Nat} (hf : n ≤ vc) (k : Nat) (hk : k ≤ n) (h0 : 0 < n) (w : World) :
    (Instr.sliceAt 43 (.slice (some ⟨g, off, none⟩) n vc) none (some (.int .i64 (k : Int))) none).run Try.prog w = .ok (.slice (some ⟨g, off, none⟩) k vc) w := by
  rw [run_sliceAt_slice w _ _ _ _ _ elem_rows, run_slice_h w _ _ _ _ elem_rows .i64 (k : Int) (by omega) (by omega), size_bytes]
  have hne : ¬ vc = 0 := by omega
  simp [Result.andThen, sliced, hne, Addr.add]

set_option maxRecDepth 100000 in
set_option maxHeartbeats 8000000 in
theorem scuts_walk (rv : Value) (arm : Int) (kv : Value) (ls : List Sec) (ks : List Int) (w : World) (hr : Parts w rv ls) (hf : Fit rv) (hl : ls.length ≤ maxLen) (hm : ∀ l ∈ ls, l.length ≤ maxLen) (ha : (Lit.int .i64 arm).wf = true) (hk : IntsV w kv ks) (hkl : ks.length ≤ maxLen) :
    Calls Try.prog 4 #[.agg #[rv, .int .i64 arm, kv]] w fun e w' => e = .returned (.bool true) ∧ Only [] w w' := by
  obtain ⟨ra, rc, rfl, -⟩ := id hr
  obtain ⟨ka, kc, rfl, -⟩ := id hk
  have HM := Lib.hid hm
  have HFT := Lib.hid hf
  have hl' : ls.length ≤ 9223372036854775807 := by unfold maxLen at hl; omega
  have HKL := Lib.hid hkl
  have HA := Lib.hid ha
  have qa : Only [] w (w.alloc (.cells #[.slice ra ls.length rc, .int .i64 arm, .slice ka ks.length kc] 45)) := (Only.refl [] w).alloc _
  have B1 := Lib.hid (heap_new w (.cells #[.slice ra ls.length rc, .int .i64 arm, .slice ka ks.length kc] 45))
  have P1 := Lib.hid (hr.kept qa (clean_nil _))
  have K1 := Lib.hid (hk.kept qa (fun _ _ _ _ _ => by simp))
  have Q1 := Lib.hid qa
  clear hr hf hl hm ha hk hkl qa
  go_enter Try.func4, Try.ntmps4
  go_wp2_with fail
  generalize hg : w.heap.size = g at B1
  generalize (w.alloc (.cells #[.slice ra ls.length rc, .int .i64 arm, .slice ka ks.length kc] 45)) = w1 at B1 P1 K1 Q1 ⊢
  refine (alive3_any _).mono ?_
  rintro e w2 ⟨rfl, o2⟩
  have B2 := Lib.hid (o2.heap B1.out (by simp))
  have P2 := Lib.hid (P1.out.kept o2 (clean_nil _))
  have K2 := Lib.hid (K1.out.kept o2 (fun _ _ _ _ _ => by simp))
  have Q2 := Lib.hid (Q1.out.trans o2 (by simp))
  have c0 : w2.cell? ⟨g, 0, none⟩ = some (.slice ra ls.length rc) := (cell_at 0 B2.out).trans rfl
  clear hg B1 P1 K1 Q1 o2
  by_cases hz : ls.length = 0
  · rw [hz] at c0
    go_wp2_with fail
    go_ret
    exact ⟨rfl, Q2.out⟩
  by_cases hb : (40 : Int) < (ls.length : Int)
  · have hz' : ((ls.length : Int) == 0) = false := beq_eq_false_iff_ne.2 (by omega)
    go_wp2_with fail
    go_ret
    exact ⟨rfl, Q2.out⟩
  have hz' : ((ls.length : Int) == 0) = false := beq_eq_false_iff_ne.2 (by omega)
  obtain ⟨n, hn⟩ : ∃ n, ls.length = n + 1 := ⟨ls.length - 1, by omega⟩
  obtain ⟨gr, gof, cap0, _, _, hv0, -, -⟩ := P2.out.part (k := 0) (List.getElem?_eq_getElem (by omega))
  cases hv0
  have hfit := (HFT.out _ _ _ rfl).1
  have hrt := rows_to (g := gr) (off := gof) hfit n (by omega) (by omega)
  have HRT := Lib.hid hrt
  have HN := Lib.hid hn
  clear hfit hrt HFT hn
  go_wp2_with fail
  go_loop [4, 30] (fun _ i => ∃ k : Nat, k ≤ ls.length ∧ i = .int .i64 k ∧ ∀ (j : Nat) (l : Sec), j < k → ls[j]? = some l → l.length ≤ 480) (fun _ i => ls.length - (intOf i).toNat)
  case atStart => exact ⟨0, by omega, rfl, fun j l h => by omega⟩
  case round =>
    obtain ⟨k, hk, rfl, hall⟩ := hrel
    have k0 : (0 : Int) ≤ (k : Int) := by omega
    by_cases hlt : k < ls.length
    · have hkl : ls[k]? = some ls[k] := List.getElem?_eq_getElem hlt
      obtain ⟨b, off, cap1, a', cap', hv, hcell, _⟩ := P2.out.part hkl
      cases hv
      have HK := Lib.hid hkl
      have HALL := Lib.hid hall
      have hml := HM.out _ (List.mem_of_getElem? hkl)
      generalize hlk : ls[k] = lk at hcell HK hml
      have hlm : lk.length ≤ 9223372036854775807 := by unfold maxLen at hml; omega
      clear hkl hlk hml hall
      have k1 : (k : Int) < (ls.length : Int) := by omega
      by_cases hbig : (480 : Int) < (lk.length : Int)
      · go_wp2_with fail
        go_ret
        exact ⟨rfl, Q2.out⟩
      · go_wp2_with fail
        go_round
        case rel => exact ⟨k + 1, by omega, by go_num, fun j l hj hjl => by
          by_cases e : j = k
          · subst e
            rw [HK.out] at hjl
            cases hjl
            omega
          · exact HALL.out j l (by omega) hjl⟩
        case measure => simp [intOf]; omega
    · obtain rfl : k = ls.length := by omega
      have hall2 : ∀ l ∈ ls, l.length ≤ 480 := fun l hl => by
        obtain ⟨j, hj, rfl⟩ := List.getElem_of_mem hl
        exact hall j _ hj (List.getElem?_eq_getElem hj)
      have HALL := Lib.hid hall2
      clear hall hall2 HM
      go_wp2_with fail
      refine (new_st 3 w2 (by omega) (by omega)).mono ?_
      rintro e w3 ⟨a, rfl, h3⟩
      have kc := conv_lit
      go_wp2_with fail
      have q3 : Only [] w3 (w3.alloc (.cells #[.int .u8 102, .int .u8 105, .int .u8 114, .int .u8 115, .int .u8 116] 5 (5, 6))) := (Only.refl [] w3).alloc _
      refine (format_st (at_ := 1) (r := [102, 105, 114, 115, 116]) (h3.quiet q3) (bytes_made w3 [102, 105, 114, 115, 116] rfl 5 rfl rfl) (by decide) (Disk.Calm.fresh 3) rfl (Nat.le_trans h3.only.size q3.size)).mono ?_
      rintro e w4 ⟨p, v4, rfl, s4⟩
      obtain ⟨_, m4, g4⟩ := fm_calm (at_ := 1) (r := [102, 105, 114, 115, 116]) (Disk.Calm.fresh 3) rfl (by decide)
      generalize (Disk.fresh 3).fm 1 [102, 105, 114, 115, 116] = d4 at s4 m4 g4
      have S4 := Lib.hid s4
      have M4 := Lib.hid m4
      have G4 := Lib.hid g4
      have c0 : w4.cell? ⟨g, 0, none⟩ = some (.slice (some ⟨gr, gof, none⟩) ls.length rc) := (cell_at 0 (S4.out.st.only.heap B2.out (by simp))).trans rfl
      have hwr : IntKind.i64.wrap ((ls.length : Int) - 1) = (n : Int) := by
        have := HN.out
        rw [IntKind.wrap_i64]
        omega
      have c0' : (w4.alloc (.cells #[.int .u8 102, .int .u8 105, .int .u8 114, .int .u8 115, .int .u8 116] 5 (5, 6))).cell? ⟨g, 0, none⟩ = some (.slice (some ⟨gr, gof, none⟩) ls.length rc) := cell_kept ((Only.refl [] w4).alloc _) c0 (by simp)
      have hrt := HRT.out
      clear h3 q3 s4 m4 g4
      go_wp2_with fail
      clear hrt kc c0' c0
      have w4b : Bytes (w4.alloc (.cells #[.int .u8 102, .int .u8 105, .int .u8 114, .int .u8 115, .int .u8 116] 5 (5, 6))) (.slice (some ⟨w4.heap.size, 0, none⟩) 5 5) [102, 105, 114, 115, 116] := bytes_made w4 [102, 105, 114, 115, 116] rfl 5 rfl rfl
      have s5 := S4.out.quiet ((Only.refl [] w4).alloc (.cells #[.int .u8 102, .int .u8 105, .int .u8 114, .int .u8 115, .int .u8 116] 5 (5, 6)))
      go_loopw [9, 11, 72] (fun wv _ i wr => ∃ (k : Nat) (d : Disk) (v : Value) (wl : Sec), k ≤ n ∧ i = .int .i64 k ∧ Bytes wr wv wl ∧ SSt w2 wr a d p v ⟨1, (k : Int) + 1, wl, false⟩ ∧ d.Calm ∧ Holds d ⟨1, (k : Int) + 1, wl, false⟩) (fun _ _ i _ => n - (intOf i).toNat)
      case atStart => exact ⟨0, d4, v4, _, by omega, rfl, w4b, s5, M4.out, G4.out⟩
      case round =>
        clear w4b s5 S4 M4 G4
        obtain ⟨k, d5, v5, wl, hk, rfl, hwb, s5, m5, g5⟩ := hrel
        have k0 : (0 : Int) ≤ (k : Int) := by omega
        have S5 := Lib.hid s5
        have M5 := Lib.hid m5
        have G5 := Lib.hid g5
        have W5 := Lib.hid hwb
        obtain ⟨wa, wc, rfl, -⟩ := hwb
        clear s5 m5 g5
        by_cases hlt : k < n
        · obtain ⟨lk, hkl⟩ : ∃ x, ls[k]? = some x := ⟨_, List.getElem?_eq_getElem (by have := HN.out; omega)⟩
          obtain ⟨b, off, cap1, a', cap', hv, hcell0, hby⟩ := P2.out.part hkl
          cases hv
          have hll := HALL.out _ (List.mem_of_getElem? hkl)
          have hcell : wr.cell? ⟨gr, gof + k, none⟩ = some (.slice a' lk.length cap') := cell_kept S5.out.st.only hcell0 (by simp)
          have HBY := Lib.hid (hby.kept S5.out.st.only (clean_nil _))
          have k1 : (k : Int) < (n : Int) := by omega
          have hnb : (n : Int) ≤ 39 := by have := HN.out; omega
          clear hby hkl hcell0
          go_wp2_with fail
          refine (save_calm' S5.out HBY.out hll M5.out G5.out (by simp; omega) rfl).mono ?_
          rintro e w6 ⟨rfl, ⟨v6, d6, s6, m6, g6⟩, o6⟩
          have W6 := Lib.hid (S5.out.bytes HBY.out o6)
          have e1 : ((k + 1 : Nat) : Int) = (k : Int) + 1 := by omega
          have s7 : SSt w2 w6 a d6 p v6 ⟨1, ((k + 1 : Nat) : Int) + 1, lk, false⟩ := by rw [e1]; exact s6
          have g7 : Holds d6 ⟨1, ((k + 1 : Nat) : Int) + 1, lk, false⟩ := by rw [e1]; exact g6
          have S7 := Lib.hid s7
          have G7 := Lib.hid g7
          have M7 := Lib.hid m6
          clear s6 m6 g6 s7 g7 o6 S5 M5 G5 e1 hcell
          go_wp2_with fail
          go_roundw
          case rel => exact ⟨k + 1, d6, v6, lk, by omega, by go_num, W6.out, S7.out, M7.out, G7.out⟩
          case measure => simp [intOf]; omega
        · obtain rfl : n = k := by omega
          have c1 : wr.cell? ⟨g, 1, none⟩ = some (.int .i64 arm) := (cell_at 1 (S5.out.st.only.heap B2.out (by simp))).trans rfl
          by_cases harm : 0 ≤ arm
          · go_wp2_with fail
            refine (arm_sst' arm S5.out harm).mono ?_
            rintro e w6 ⟨rfl, s6, o6⟩
            have S6 := Lib.hid s6
            have G6 := Lib.hid (G5.out.arm arm)
            have W6 := Lib.hid (S5.out.bytes W5.out (o6.mono (fun k hk => by simp [SA, hk])))
            clear s6 o6 S5 M5 W5 c1
            generalize ({ d5 with met := d5.met.arm arm } : Disk) = d6 at S6 G6
            clear G5
            have c0 : w6.cell? ⟨g, 0, none⟩ = some (.slice (some ⟨gr, gof, none⟩) ls.length rc) := (cell_at 0 (S6.out.st.only.heap B2.out (by simp))).trans rfl
            have c2 : w6.cell? ⟨g, 2, none⟩ = some (.slice ka ks.length kc) := (cell_at 2 (S6.out.st.only.heap B2.out (by simp))).trans rfl
            obtain ⟨lr, hkl⟩ : ∃ x, ls[n]? = some x := ⟨_, List.getElem?_eq_getElem (by have := HN.out; omega)⟩
            obtain ⟨b, off, cap1, a', cap', hv, hcell0, hby⟩ := P2.out.part hkl
            cases hv
            have hll := HALL.out _ (List.mem_of_getElem? hkl)
            have hcell : w6.cell? ⟨gr, gof + n, none⟩ = some (.slice a' lr.length cap') := cell_kept S6.out.st.only hcell0 (by simp)
            have hnl : (n : Int) < (ls.length : Int) := by have := HN.out; omega
            have hn0 : (0 : Int) ≤ (n : Int) := by omega
            have HBY := Lib.hid hby
            have HC0 := Lib.hid hcell0
            have HLL := Lib.hid hll
            clear hby hkl hcell0
            go_wp2_with fail
            have hnb : (n : Int) ≤ 39 := by have := HN.out; omega
            have hnf : ¬ (480 < lr.length ∨ ((n : Int) + 1) = 4611686018427387904) := by omega
            have e1 : (⟨1, (n : Int) + 1, wl, false⟩ : SL).scode d6 lr = d6.lcode (⟨1, (n : Int) + 1, wl, false⟩ : SL).place ((⟨1, (n : Int) + 1, wl, false⟩ : SL).sec lr) := by unfold SL.scode; rw [if_neg hnf]; rfl
            have e2 : (⟨1, (n : Int) + 1, wl, false⟩ : SL).sdisk d6 lr = d6.ly (⟨1, (n : Int) + 1, wl, false⟩ : SL).place ((⟨1, (n : Int) + 1, wl, false⟩ : SL).sec lr) := by unfold SL.sdisk; rw [if_neg hnf]; rfl
            have e3 : (⟨1, (n : Int) + 1, wl, false⟩ : SL).save d6 lr = if d6.lcode (⟨1, (n : Int) + 1, wl, false⟩ : SL).place ((⟨1, (n : Int) + 1, wl, false⟩ : SL).sec lr) = 0 then ⟨1, (n : Int) + 1 + 1, lr, false⟩ else ⟨1, (n : Int) + 1, wl, true⟩ := by unfold SL.save; rw [if_neg hnf]; rfl
            have h03 := Disk.lcode_03 (l := (⟨1, (n : Int) + 1, wl, false⟩ : SL).sec lr) G6.out.place (SL.sec_len (by simp; omega) (by simp; omega) hll)
            have hyes := G6.out.yes (r := lr) (by simp; omega) hll
            have hno := G6.out.no (r := lr) (by simp; omega) hll
            refine (save_st' S6.out (HBY.out.kept S6.out.st.only (clean_nil _)) G6.out.fit (by omega)).mono ?_
            rintro e w7 ⟨rfl, ⟨v7, s7⟩, o7⟩
            rw [e1]
            rw [e2, e3] at s7
            have W7 := Lib.hid (S6.out.bytes W6.out o7)
            clear e1 e2 e3 hnf c0 hcell S6 W6 o7
            have c2 : w7.cell? ⟨g, 2, none⟩ = some (.slice ka ks.length kc) := (cell_at 2 (s7.st.only.heap B2.out (by simp))).trans rfl
            by_cases hcz : d6.lcode (⟨1, (n : Int) + 1, wl, false⟩ : SL).place ((⟨1, (n : Int) + 1, wl, false⟩ : SL).sec lr) = 0
            · rw [errV_z hcz]
              rw [if_pos hcz] at s7
              have g7 : Holds _ ⟨1, (n : Int) + 1 + 1, lr, false⟩ := hyes hcz
              generalize d6.ly (⟨1, (n : Int) + 1, wl, false⟩ : SL).place ((⟨1, (n : Int) + 1, wl, false⟩ : SL).sec lr) = d7 at s7 g7
              have S7 := Lib.hid s7
              have G7 := Lib.hid g7
              clear s7 g7 hyes hno h03 hcz G6
              go_wp2_with fail
              clear c2
              refine (crash_sst _ ks S7.out K2.out HKL.out).mono ?_
              rintro e w8 ⟨rfl, s8⟩
              have S8 := Lib.hid s8
              have G8 := Lib.hid (G7.out.crash ks)
              clear s8 S7 G7 W7
              go_wp2_with fail
              refine (open_holds S8.out.st rfl G8.out S8.out.st.only.size).mono ?_
              rintro e w9 ⟨p9, v9, rfl, s9, _⟩
              have S9 := Lib.hid (s9.quiet ((Only.refl [] w9).drew))
              clear s9 S8 G8
              go_wp2_with fail
              refine wp_region_held_drew (S := fun _ => True) (by kernel_rfl) trivial (fun hH => ?_)
              refine take_list (i := 0) (v := ?_) rfl (by kernel_rfl) (by kernel_rfl) (by kernel_rfl) (fun _ _ _ h => h) (Or.inl ⟨by rfl, ?_⟩) hH ?_
              rotate_left
              · ((intro w hSw; (try dsimp only at hSw); go_simp); try with_reducible rfl)
              simp only [Act.put, List.setIfInBounds_toArray, List.set_cons_zero, List.set_cons_succ]
              refine take_list (i := 1) (v := ?_) rfl (by kernel_rfl) (by kernel_rfl) (by kernel_rfl) (fun _ _ _ h => h) (Or.inl ⟨by rfl, ?_⟩) hH ?_
              rotate_left
              · ((intro w hSw; (try dsimp only at hSw); go_simp); try with_reducible rfl)
              simp only [Act.put, List.setIfInBounds_toArray, List.set_cons_zero, List.set_cons_succ]
              refine take_list (i := 2) (v := ?_) rfl (by kernel_rfl) (by kernel_rfl) (by kernel_rfl) (fun _ _ _ h => h) (Or.inl ⟨by rfl, ?_⟩) hH ?_
              rotate_left
              · ((intro w hSw; (try dsimp only at hSw); go_simp); try with_reducible rfl)
              simp only [Act.put, List.setIfInBounds_toArray, List.set_cons_zero, List.set_cons_succ]
              refine take_list (i := 3) (v := ?_) rfl (by kernel_rfl) (by kernel_rfl) (by kernel_rfl) (fun _ _ _ h => h) (Or.inl ⟨by rfl, ?_⟩) hH ?_
              rotate_left
              · ((intro w hSw; (try dsimp only at hSw); go_simp); try with_reducible rfl)
              simp only [Act.put, List.setIfInBounds_toArray, List.set_cons_zero, List.set_cons_succ]
              refine take_list (i := 4) (v := ?_) rfl (by kernel_rfl) (by kernel_rfl) (by kernel_rfl) (fun _ _ _ h => h) (Or.inl ⟨by rfl, ?_⟩) hH ?_
              rotate_left
              · ((intro w hSw; (try dsimp only at hSw); go_simp); try with_reducible rfl)
              simp only [Act.put, List.setIfInBounds_toArray, List.set_cons_zero, List.set_cons_succ]
              refine take_list (i := 5) (v := ?_) rfl (by kernel_rfl) (by kernel_rfl) (by kernel_rfl) (fun _ _ _ h => h) (Or.inl ⟨by rfl, ?_⟩) hH ?_
              rotate_left
              · ((intro w hSw; (try dsimp only at hSw); go_simp); try with_reducible rfl)
              simp only [Act.put, List.setIfInBounds_toArray, List.set_cons_zero, List.set_cons_succ]
              refine take_list (i := 6) (v := ?_) rfl (by kernel_rfl) (by kernel_rfl) (by kernel_rfl) (fun _ _ _ h => h) (Or.inl ⟨by rfl, ?_⟩) hH ?_
              rotate_left
              · ((intro w hSw; (try dsimp only at hSw); go_simp); try with_reducible rfl)
              simp only [Act.put, List.setIfInBounds_toArray, List.set_cons_zero, List.set_cons_succ]
              refine take_list (i := 7) (v := ?_) rfl (by kernel_rfl) (by kernel_rfl) (by kernel_rfl) (fun _ _ _ h => h) (Or.inl ⟨by rfl, ?_⟩) hH ?_
              rotate_left
              · ((intro w hSw; (try dsimp only at hSw); go_simp); try with_reducible rfl)
              simp only [Act.put, List.setIfInBounds_toArray, List.set_cons_zero, List.set_cons_succ]
              refine take_list (i := 8) (v := ?_) rfl (by kernel_rfl) (by kernel_rfl) (by kernel_rfl) (fun _ _ _ h => h) (Or.inl ⟨by rfl, ?_⟩) hH ?_
              rotate_left
              · ((intro w hSw; (try dsimp only at hSw); go_simp); try with_reducible rfl)
              simp only [Act.put, List.setIfInBounds_toArray, List.set_cons_zero, List.set_cons_succ]
              refine take_list (i := 9) (v := ?_) rfl (by kernel_rfl) (by kernel_rfl) (by kernel_rfl) (fun _ _ _ h => h) (Or.inl ⟨by rfl, ?_⟩) hH ?_
              rotate_left
              · ((intro w hSw; (try dsimp only at hSw); go_simp); try with_reducible rfl)
              simp only [Act.put, List.setIfInBounds_toArray, List.set_cons_zero, List.set_cons_succ]
              refine take_list (i := 10) (v := undef) rfl (by kernel_rfl) (by kernel_rfl) (by kernel_rfl) (fun _ _ _ h => h) (Or.inr ⟨by rfl, rfl⟩) hH ?_
              simp only [Act.put, List.setIfInBounds_toArray, List.set_cons_zero, List.set_cons_succ]
              refine take_list (i := 11) (v := undef) rfl (by kernel_rfl) (by kernel_rfl) (by kernel_rfl) (fun _ _ _ h => h) (Or.inr ⟨by rfl, rfl⟩) hH ?_
              simp only [Act.put, List.setIfInBounds_toArray, List.set_cons_zero, List.set_cons_succ]
              refine take_list (i := 12) (v := undef) rfl (by kernel_rfl) (by kernel_rfl) (by kernel_rfl) (fun _ _ _ h => h) (Or.inr ⟨by rfl, rfl⟩) hH ?_
              simp only [Act.put, List.setIfInBounds_toArray, List.set_cons_zero, List.set_cons_succ]
              refine take_list (i := 13) (v := undef) rfl (by kernel_rfl) (by kernel_rfl) (by kernel_rfl) (fun _ _ _ h => h) (Or.inr ⟨by rfl, rfl⟩) hH ?_
              simp only [Act.put, List.setIfInBounds_toArray, List.set_cons_zero, List.set_cons_succ]
              refine take_list (i := 14) (v := undef) rfl (by kernel_rfl) (by kernel_rfl) (by kernel_rfl) (fun _ _ _ h => h) (Or.inr ⟨by rfl, rfl⟩) hH ?_
              simp only [Act.put, List.setIfInBounds_toArray, List.set_cons_zero, List.set_cons_succ]
              refine take_list (i := 15) (v := undef) rfl (by kernel_rfl) (by kernel_rfl) (by kernel_rfl) (fun _ _ _ h => h) (Or.inr ⟨by rfl, rfl⟩) hH ?_
              simp only [Act.put, List.setIfInBounds_toArray, List.set_cons_zero, List.set_cons_succ]
              refine take_list (i := 16) (v := undef) rfl (by kernel_rfl) (by kernel_rfl) (by kernel_rfl) (fun _ _ _ h => h) (Or.inr ⟨by rfl, rfl⟩) hH ?_
              simp only [Act.put, List.setIfInBounds_toArray, List.set_cons_zero, List.set_cons_succ]
              refine take_list (i := 17) (v := undef) rfl (by kernel_rfl) (by kernel_rfl) (by kernel_rfl) (fun _ _ _ h => h) (Or.inr ⟨by rfl, rfl⟩) hH ?_
              simp only [Act.put, List.setIfInBounds_toArray, List.set_cons_zero, List.set_cons_succ]
              refine take_list (i := 18) (v := undef) rfl (by kernel_rfl) (by kernel_rfl) (by kernel_rfl) (fun _ _ _ h => h) (Or.inr ⟨by rfl, rfl⟩) hH ?_
              simp only [Act.put, List.setIfInBounds_toArray, List.set_cons_zero, List.set_cons_succ]
              refine take_list (i := 19) (v := undef) rfl (by kernel_rfl) (by kernel_rfl) (by kernel_rfl) (fun _ _ _ h => h) (Or.inr ⟨by rfl, rfl⟩) hH ?_
              simp only [Act.put, List.setIfInBounds_toArray, List.set_cons_zero, List.set_cons_succ]
              refine take_list (i := 20) (v := undef) rfl (by kernel_rfl) (by kernel_rfl) (by kernel_rfl) (fun _ _ _ h => h) (Or.inr ⟨by rfl, rfl⟩) hH ?_
              simp only [Act.put, List.setIfInBounds_toArray, List.set_cons_zero, List.set_cons_succ]
              refine take_list (i := 21) (v := ?_) rfl (by kernel_rfl) (by kernel_rfl) (by kernel_rfl) (fun _ _ _ h => h) (Or.inl ⟨by rfl, ?_⟩) hH ?_
              rotate_left
              · ((intro w hSw; (try dsimp only at hSw); go_simp); try with_reducible rfl)
              simp only [Act.put, List.setIfInBounds_toArray, List.set_cons_zero, List.set_cons_succ]
              refine take_list (i := 22) (v := ?_) rfl (by kernel_rfl) (by kernel_rfl) (by kernel_rfl) (fun _ _ _ h => h) (Or.inl ⟨by rfl, ?_⟩) hH ?_
              rotate_left
              · ((intro w hSw; (try dsimp only at hSw); go_simp); try with_reducible rfl)
              simp only [Act.put, List.setIfInBounds_toArray, List.set_cons_zero, List.set_cons_succ]
              refine wpAnyH_done (by kernel_rfl) ?_ _
              clear hH
              go_wp2_with fail
              refine (row_slot _ S9.out.slot lr rfl).mono ?_
              rintro e w10 ⟨b10, k10, rfl, h10, o10⟩
              obtain ⟨S, hS⟩ : ∃ S, S = strOf lr := ⟨_, rfl⟩
              have sr := str_bytes h10.bytes hS
              have S10 := Lib.hid (S9.out.quiet o10)
              have sl := str_bytes (HBY.out.kept S10.out.st.only (clean_nil _)) hS
              have c0 : w10.cell? ⟨g, 0, none⟩ = some (.slice (some ⟨gr, gof, none⟩) ls.length rc) := (cell_at 0 (S10.out.st.only.heap B2.out (by simp))).trans rfl
              have hcell : w10.cell? ⟨gr, gof + n, none⟩ = some (.slice a' lr.length cap') := cell_kept S10.out.st.only HC0.out (by simp)
              clear S9 h10 o10 hS
              go_wp2_with fail
              refine (number_slot _ S10.out.slot ((n : Int) + 2) (by show (n : Int) + 1 + 1 = _; omega)).mono ?_
              rintro e w' ⟨rfl, rfl⟩
              go_wp2_with fail
              go_ret
              exact ⟨by simp, Q2.out.trans S10.out.st.only (by simp)⟩
            · have hc3 := h03.resolve_left hcz
              rw [hc3]
              rw [show errV 3 = err 3 from rfl]
              rw [if_neg hcz] at s7
              have hno' := hno hcz ks
              generalize d6.ly (⟨1, (n : Int) + 1, wl, false⟩ : SL).place ((⟨1, (n : Int) + 1, wl, false⟩ : SL).sec lr) = d7 at s7 hno'
              have S7 := Lib.hid s7
              have HNO := Lib.hid hno'
              clear s7 hyes hno hno' h03 hcz hc3 G6
              go_wp2_with fail
              clear c2
              refine (crash_sst' _ ks S7.out K2.out HKL.out).mono ?_
              rintro e w8 ⟨rfl, s8, o8⟩
              obtain ⟨s', D', hD', hh, hat, hrow⟩ : ∃ s' D', d7.crash ks = D' ∧ Holds D' s' ∧ s'.at_ = 1 ∧ ((s'.n = (n : Int) + 2 ∧ s'.row = lr) ∨ (s'.n = (n : Int) + 1 ∧ s'.row = wl)) := by
                rcases HNO.out with h | h
                · exact ⟨_, _, rfl, h, rfl, .inr ⟨rfl, rfl⟩⟩
                · exact ⟨_, _, rfl, h, rfl, .inl ⟨by show (n : Int) + 1 + 1 = _; omega, rfl⟩⟩
              have hdn : D'.met.down = false := by rw [← hD']; rfl
              rw [hD'] at s8
              have S8 := Lib.hid s8
              have W8 := Lib.hid (S7.out.bytes W7.out (o8.mono (fun k hk => by simp [SA, hk])))
              have HH := Lib.hid hh
              have HROW := Lib.hid hrow
              have HDN := Lib.hid hdn
              clear s8 o8 S7 W7 HNO hD' hh hrow hdn
              go_wp2_with fail
              have ho := open_holds S8.out.st HDN.out HH.out S8.out.st.only.size
              rw [hat] at ho
              refine ho.mono ?_
              rintro e w9 ⟨p9, v9, rfl, s9, o9⟩
              have qd : Only [] w9 w9.drew := (Only.refl [] w9).drew
              have S9 := Lib.hid (s9.quiet qd)
              have S89 := Lib.hid ((S8.out.quiet o9).quiet qd)
              have W9 := Lib.hid ((W8.out.kept o9 (clean_nil _)).kept qd (clean_nil _))
              obtain ⟨S, hS⟩ : ∃ S, S = strOf wl := ⟨_, rfl⟩
              have HS := Lib.hid hS
              have sw := str_bytes W9.out hS
              clear ho s9 o9 qd S8 W8 HH HDN hS
              have qn := err_n33
              go_wp2_with fail
              refine wp_region_held_drew (S := fun w' => (convert 37 9 (.slice wa wl.length wc)).run Try.prog w' = .ok (.string S) w') (by kernel_rfl) sw (fun hH => ?_)
              clear sw
              refine take_list (i := 0) (v := ?_) rfl (by kernel_rfl) (by kernel_rfl) (by kernel_rfl) (fun _ _ _ h => h) (Or.inl ⟨by rfl, ?_⟩) hH ?_
              rotate_left
              · ((intro w hSw; (try dsimp only at hSw); go_simp); try with_reducible rfl)
              simp only [Act.put, List.setIfInBounds_toArray, List.set_cons_zero, List.set_cons_succ]
              refine take_list (i := 1) (v := ?_) rfl (by kernel_rfl) (by kernel_rfl) (by kernel_rfl) (fun _ _ _ h => h) (Or.inl ⟨by rfl, ?_⟩) hH ?_
              rotate_left
              · ((intro w hSw; (try dsimp only at hSw); go_simp); try with_reducible rfl)
              simp only [Act.put, List.setIfInBounds_toArray, List.set_cons_zero, List.set_cons_succ]
              refine take_list (i := 2) (v := ?_) rfl (by kernel_rfl) (by kernel_rfl) (by kernel_rfl) (fun _ _ _ h => h) (Or.inl ⟨by rfl, ?_⟩) hH ?_
              rotate_left
              · ((intro w hSw; (try dsimp only at hSw); go_simp); try with_reducible rfl)
              simp only [Act.put, List.setIfInBounds_toArray, List.set_cons_zero, List.set_cons_succ]
              refine take_list (i := 3) (v := ?_) rfl (by kernel_rfl) (by kernel_rfl) (by kernel_rfl) (fun _ _ _ h => h) (Or.inl ⟨by rfl, ?_⟩) hH ?_
              rotate_left
              · ((intro w hSw; (try dsimp only at hSw); go_simp); try with_reducible rfl)
              simp only [Act.put, List.setIfInBounds_toArray, List.set_cons_zero, List.set_cons_succ]
              refine take_list (i := 4) (v := ?_) rfl (by kernel_rfl) (by kernel_rfl) (by kernel_rfl) (fun _ _ _ h => h) (Or.inl ⟨by rfl, ?_⟩) hH ?_
              rotate_left
              · ((intro w hSw; (try dsimp only at hSw); go_simp); try with_reducible rfl)
              simp only [Act.put, List.setIfInBounds_toArray, List.set_cons_zero, List.set_cons_succ]
              refine take_list (i := 5) (v := ?_) rfl (by kernel_rfl) (by kernel_rfl) (by kernel_rfl) (fun _ _ _ h => h) (Or.inl ⟨by rfl, ?_⟩) hH ?_
              rotate_left
              · ((intro w hSw; (try dsimp only at hSw); go_simp); try with_reducible rfl)
              simp only [Act.put, List.setIfInBounds_toArray, List.set_cons_zero, List.set_cons_succ]
              refine take_list (i := 6) (v := ?_) rfl (by kernel_rfl) (by kernel_rfl) (by kernel_rfl) (fun _ _ _ h => h) (Or.inl ⟨by rfl, ?_⟩) hH ?_
              rotate_left
              · ((intro w hSw; (try dsimp only at hSw); go_simp); try with_reducible rfl)
              simp only [Act.put, List.setIfInBounds_toArray, List.set_cons_zero, List.set_cons_succ]
              refine take_list (i := 7) (v := ?_) rfl (by kernel_rfl) (by kernel_rfl) (by kernel_rfl) (fun _ _ _ h => h) (Or.inl ⟨by rfl, ?_⟩) hH ?_
              rotate_left
              · ((intro w hSw; (try dsimp only at hSw); go_simp); try with_reducible rfl)
              simp only [Act.put, List.setIfInBounds_toArray, List.set_cons_zero, List.set_cons_succ]
              refine take_list (i := 8) (v := ?_) rfl (by kernel_rfl) (by kernel_rfl) (by kernel_rfl) (fun _ _ _ h => h) (Or.inl ⟨by rfl, ?_⟩) hH ?_
              rotate_left
              · ((intro w hSw; (try dsimp only at hSw); go_simp); try with_reducible rfl)
              simp only [Act.put, List.setIfInBounds_toArray, List.set_cons_zero, List.set_cons_succ]
              refine take_list (i := 9) (v := ?_) rfl (by kernel_rfl) (by kernel_rfl) (by kernel_rfl) (fun _ _ _ h => h) (Or.inl ⟨by rfl, ?_⟩) hH ?_
              rotate_left
              · ((intro w hSw; (try dsimp only at hSw); go_simp); try with_reducible rfl)
              simp only [Act.put, List.setIfInBounds_toArray, List.set_cons_zero, List.set_cons_succ]
              refine take_list (i := 10) (v := ?_) rfl (by kernel_rfl) (by kernel_rfl) (by kernel_rfl) (fun _ _ _ h => h) (Or.inl ⟨by rfl, ?_⟩) hH ?_
              rotate_left
              · ((intro w hSw; (try dsimp only at hSw); go_simp); try with_reducible rfl)
              simp only [Act.put, List.setIfInBounds_toArray, List.set_cons_zero, List.set_cons_succ]
              refine take_list (i := 11) (v := ?_) rfl (by kernel_rfl) (by kernel_rfl) (by kernel_rfl) (fun _ _ _ h => h) (Or.inl ⟨by rfl, ?_⟩) hH ?_
              rotate_left
              · ((intro w hSw; (try dsimp only at hSw); go_simp); try with_reducible rfl)
              simp only [Act.put, List.setIfInBounds_toArray, List.set_cons_zero, List.set_cons_succ]
              refine take_list (i := 12) (v := ?_) rfl (by kernel_rfl) (by kernel_rfl) (by kernel_rfl) (fun _ _ _ h => h) (Or.inl ⟨by rfl, ?_⟩) hH ?_
              rotate_left
              · ((intro w hSw; (try dsimp only at hSw); go_simp); try with_reducible rfl)
              simp only [Act.put, List.setIfInBounds_toArray, List.set_cons_zero, List.set_cons_succ]
              refine take_list (i := 13) (v := ?_) rfl (by kernel_rfl) (by kernel_rfl) (by kernel_rfl) (fun _ _ _ h => h) (Or.inl ⟨by rfl, ?_⟩) hH ?_
              rotate_left
              · ((intro w hSw; (try dsimp only at hSw); go_simp); try with_reducible rfl)
              simp only [Act.put, List.setIfInBounds_toArray, List.set_cons_zero, List.set_cons_succ]
              refine take_list (i := 14) (v := ?_) rfl (by kernel_rfl) (by kernel_rfl) (by kernel_rfl) (fun _ _ _ h => h) (Or.inl ⟨by rfl, ?_⟩) hH ?_
              rotate_left
              · ((intro w hSw; (try dsimp only at hSw); go_simp); try with_reducible rfl)
              simp only [Act.put, List.setIfInBounds_toArray, List.set_cons_zero, List.set_cons_succ]
              refine take_list (i := 17) (v := ?_) rfl (by kernel_rfl) (by kernel_rfl) (by kernel_rfl) (fun _ _ _ h => h) (Or.inl ⟨by rfl, ?_⟩) hH ?_
              rotate_left
              · ((intro w hSw; (try dsimp only at hSw); go_simp); try with_reducible rfl)
              simp only [Act.put, List.setIfInBounds_toArray, List.set_cons_zero, List.set_cons_succ]
              refine take_list (i := 18) (v := ?_) rfl (by kernel_rfl) (by kernel_rfl) (by kernel_rfl) (fun _ _ _ h => h) (Or.inl ⟨by rfl, ?_⟩) hH ?_
              rotate_left
              · ((intro w hSw; (try dsimp only at hSw); go_simp); try with_reducible rfl)
              simp only [Act.put, List.setIfInBounds_toArray, List.set_cons_zero, List.set_cons_succ]
              refine wpAnyH_ready (rs := [15]) (by kernel_rfl) (by simp) ?_
              refine ready_list rfl (fun K hK => ?_)
              go_simp
              refine (row_slot _ S89.out.slot wl rfl).mono ?_
              rintro e w10 ⟨b10, k10, rfl, h10, o10⟩
              have W10 := Lib.hid (W9.out.kept o10 (clean_nil _))
              have S10 := Lib.hid (S9.out.quiet o10)
              have B10 := Lib.hid h10.bytes
              refine hK.out _ _ (str_bytes W10.out HS.out) (fun _ => ?_)
              clear hK K hH h10 o10 W9 S9 S89
              refine wpAnyH_sharpen (S' := fun w' => (convert 37 9 (.slice b10 wl.length k10)).run Try.prog w' = .ok (.string S) w' ∧ (convert 37 9 (.slice wa wl.length wc)).run Try.prog w' = .ok (.string S) w') (fun _ h => h.2) ?_
              have hH := And.intro (str_bytes B10.out HS.out) (str_bytes W10.out HS.out)
              refine take_list (i := 16) (v := ?_) rfl (by kernel_rfl) (by kernel_rfl) (by kernel_rfl) (fun _ _ _ h => h) (Or.inl ⟨by rfl, ?_⟩) hH ?_
              rotate_left
              · ((intro w hSw; (try dsimp only at hSw); go_simp); try with_reducible rfl)
              simp only [Act.put, List.setIfInBounds_toArray, List.set_cons_zero, List.set_cons_succ]
              refine take_list (i := 19) (v := ?_) rfl (by kernel_rfl) (by kernel_rfl) (by kernel_rfl) (fun _ _ _ h => h) (Or.inl ⟨by rfl, ?_⟩) hH ?_
              rotate_left
              · ((intro w hSw; (try dsimp only at hSw); go_simp); try with_reducible rfl)
              simp only [Act.put, List.setIfInBounds_toArray, List.set_cons_zero, List.set_cons_succ]
              refine take_list (i := 20) (v := ?_) rfl (by kernel_rfl) (by kernel_rfl) (by kernel_rfl) (fun _ _ _ h => h) (Or.inl ⟨by rfl, ?_⟩) hH ?_
              rotate_left
              · ((intro w hSw; (try dsimp only at hSw); go_simp); try with_reducible rfl)
              simp only [Act.put, List.setIfInBounds_toArray, List.set_cons_zero, List.set_cons_succ]
              refine take_list (i := 21) (v := ?_) rfl (by kernel_rfl) (by kernel_rfl) (by kernel_rfl) (fun _ _ _ h => h) (Or.inl ⟨by rfl, ?_⟩) hH ?_
              rotate_left
              · ((intro w hSw; (try dsimp only at hSw); go_simp); try with_reducible rfl)
              simp only [Act.put, List.setIfInBounds_toArray, List.set_cons_zero, List.set_cons_succ]
              refine take_list (i := 22) (v := ?_) rfl (by kernel_rfl) (by kernel_rfl) (by kernel_rfl) (fun _ _ _ h => h) (Or.inl ⟨by rfl, ?_⟩) hH ?_
              rotate_left
              · ((intro w hSw; (try dsimp only at hSw); go_simp); try with_reducible rfl)
              simp only [Act.put, List.setIfInBounds_toArray, List.set_cons_zero, List.set_cons_succ]
              refine wpAnyH_done (by kernel_rfl) ?_ _
              clear hH B10 qn
              go_wp2_with fail
              obtain ⟨SL2, hSL⟩ : ∃ S, S = strOf lr := ⟨_, rfl⟩
              have HSL := Lib.hid hSL
              clear hSL
              have hn2 : IntKind.i64.wrap ((n : Int) + 2) = (n : Int) + 2 := by rw [IntKind.wrap_i64]; omega
              have hn1 : IntKind.i64.wrap ((n : Int) + 1) = (n : Int) + 1 := by rw [IntKind.wrap_i64]; omega
              rcases HROW.out with ⟨hnn, hrr⟩ | ⟨hnn, hrr⟩
              · refine (row_slot _ S10.out.slot lr hrr).mono ?_
                rintro e w11 ⟨b11, k11, rfl, h11, o11⟩
                have sr := str_bytes h11.bytes HSL.out
                have S11 := Lib.hid (S10.out.quiet o11)
                have sl := str_bytes (HBY.out.kept S11.out.st.only (clean_nil _)) HSL.out
                have c0 : w11.cell? ⟨g, 0, none⟩ = some (.slice (some ⟨gr, gof, none⟩) ls.length rc) := (cell_at 0 (S11.out.st.only.heap B2.out (by simp))).trans rfl
                have hcell : w11.cell? ⟨gr, gof + n, none⟩ = some (.slice a' lr.length cap') := cell_kept S11.out.st.only HC0.out (by simp)
                clear S10 h11 o11 hrr W10
                go_wp2_with fail
                refine (number_slot _ S11.out.slot ((n : Int) + 2) hnn).mono ?_
                rintro e w' ⟨rfl, rfl⟩
                go_wp2_with fail
                go_ret
                exact ⟨by simp, Q2.out.trans S11.out.st.only (by simp)⟩
              · refine (row_slot _ S10.out.slot wl hrr).mono ?_
                rintro e w11 ⟨b11, k11, rfl, h11, o11⟩
                have sr := str_bytes h11.bytes HS.out
                have S11 := Lib.hid (S10.out.quiet o11)
                have sw := str_bytes (W10.out.kept o11 (clean_nil _)) HS.out
                have sl := str_bytes (HBY.out.kept S11.out.st.only (clean_nil _)) HSL.out
                have c0 : w11.cell? ⟨g, 0, none⟩ = some (.slice (some ⟨gr, gof, none⟩) ls.length rc) := (cell_at 0 (S11.out.st.only.heap B2.out (by simp))).trans rfl
                have hcell : w11.cell? ⟨gr, gof + n, none⟩ = some (.slice a' lr.length cap') := cell_kept S11.out.st.only HC0.out (by simp)
                clear S10 h11 o11 hrr W10
                have hne12 : ((n : Int) + 1 == (n : Int) + 2) = false := beq_eq_false_iff_ne.2 (by omega)
                by_cases heq : wl = lr
                · subst heq
                  obtain rfl : SL2 = S := by rw [HSL.out, HS.out]
                  go_wp2_with fail
                  refine (number_slot _ S11.out.slot ((n : Int) + 1) hnn).mono ?_
                  rintro e w' ⟨rfl, rfl⟩
                  go_wp2_with fail
                  refine (number_slot _ S11.out.slot ((n : Int) + 1) hnn).mono ?_
                  rintro e w' ⟨rfl, rfl⟩
                  go_wp2_with fail
                  go_ret
                  exact ⟨by simp, Q2.out.trans S11.out.st.only (by simp)⟩
                · have hne : (S.toList == SL2.toList) = false := strs_ne HS.out HSL.out heq
                  go_wp2_with fail
                  refine (number_slot _ S11.out.slot ((n : Int) + 1) hnn).mono ?_
                  rintro e w' ⟨rfl, rfl⟩
                  go_wp2_with fail
                  go_ret
                  exact ⟨by simp, Q2.out.trans S11.out.st.only (by simp)⟩
          · have S6 := S5
            have G6 := G5
            have W6 := W5
            generalize hd6 : d5 = d6 at S6 G6
            clear hd6 S5 M5 G5 W5
            have c0 : wr.cell? ⟨g, 0, none⟩ = some (.slice (some ⟨gr, gof, none⟩) ls.length rc) := (cell_at 0 (S6.out.st.only.heap B2.out (by simp))).trans rfl
            have c2 : wr.cell? ⟨g, 2, none⟩ = some (.slice ka ks.length kc) := (cell_at 2 (S6.out.st.only.heap B2.out (by simp))).trans rfl
            obtain ⟨lr, hkl⟩ : ∃ x, ls[n]? = some x := ⟨_, List.getElem?_eq_getElem (by have := HN.out; omega)⟩
            obtain ⟨b, off, cap1, a', cap', hv, hcell0, hby⟩ := P2.out.part hkl
            cases hv
            have hll := HALL.out _ (List.mem_of_getElem? hkl)
            have hcell : wr.cell? ⟨gr, gof + n, none⟩ = some (.slice a' lr.length cap') := cell_kept S6.out.st.only hcell0 (by simp)
            have hnl : (n : Int) < (ls.length : Int) := by have := HN.out; omega
            have hn0 : (0 : Int) ≤ (n : Int) := by omega
            have HBY := Lib.hid hby
            have HC0 := Lib.hid hcell0
            have HLL := Lib.hid hll
            clear hby hkl hcell0
            go_wp2_with fail
            clear c1
            have hnb : (n : Int) ≤ 39 := by have := HN.out; omega
            have hnf : ¬ (480 < lr.length ∨ ((n : Int) + 1) = 4611686018427387904) := by omega
            have e1 : (⟨1, (n : Int) + 1, wl, false⟩ : SL).scode d6 lr = d6.lcode (⟨1, (n : Int) + 1, wl, false⟩ : SL).place ((⟨1, (n : Int) + 1, wl, false⟩ : SL).sec lr) := by unfold SL.scode; rw [if_neg hnf]; rfl
            have e2 : (⟨1, (n : Int) + 1, wl, false⟩ : SL).sdisk d6 lr = d6.ly (⟨1, (n : Int) + 1, wl, false⟩ : SL).place ((⟨1, (n : Int) + 1, wl, false⟩ : SL).sec lr) := by unfold SL.sdisk; rw [if_neg hnf]; rfl
            have e3 : (⟨1, (n : Int) + 1, wl, false⟩ : SL).save d6 lr = if d6.lcode (⟨1, (n : Int) + 1, wl, false⟩ : SL).place ((⟨1, (n : Int) + 1, wl, false⟩ : SL).sec lr) = 0 then ⟨1, (n : Int) + 1 + 1, lr, false⟩ else ⟨1, (n : Int) + 1, wl, true⟩ := by unfold SL.save; rw [if_neg hnf]; rfl
            have h03 := Disk.lcode_03 (l := (⟨1, (n : Int) + 1, wl, false⟩ : SL).sec lr) G6.out.place (SL.sec_len (by simp; omega) (by simp; omega) hll)
            have hyes := G6.out.yes (r := lr) (by simp; omega) hll
            have hno := G6.out.no (r := lr) (by simp; omega) hll
            refine (save_st' S6.out (HBY.out.kept S6.out.st.only (clean_nil _)) G6.out.fit (by omega)).mono ?_
            rintro e w7 ⟨rfl, ⟨v7, s7⟩, o7⟩
            rw [e1]
            rw [e2, e3] at s7
            have W7 := Lib.hid (S6.out.bytes W6.out o7)
            clear e1 e2 e3 hnf c0 hcell S6 W6 o7
            have c2 : w7.cell? ⟨g, 2, none⟩ = some (.slice ka ks.length kc) := (cell_at 2 (s7.st.only.heap B2.out (by simp))).trans rfl
            by_cases hcz : d6.lcode (⟨1, (n : Int) + 1, wl, false⟩ : SL).place ((⟨1, (n : Int) + 1, wl, false⟩ : SL).sec lr) = 0
            · rw [errV_z hcz]
              rw [if_pos hcz] at s7
              have g7 : Holds _ ⟨1, (n : Int) + 1 + 1, lr, false⟩ := hyes hcz
              generalize d6.ly (⟨1, (n : Int) + 1, wl, false⟩ : SL).place ((⟨1, (n : Int) + 1, wl, false⟩ : SL).sec lr) = d7 at s7 g7
              have S7 := Lib.hid s7
              have G7 := Lib.hid g7
              clear s7 g7 hyes hno h03 hcz G6
              go_wp2_with fail
              clear c2
              refine (crash_sst _ ks S7.out K2.out HKL.out).mono ?_
              rintro e w8 ⟨rfl, s8⟩
              have S8 := Lib.hid s8
              have G8 := Lib.hid (G7.out.crash ks)
              clear s8 S7 G7 W7
              go_wp2_with fail
              refine (open_holds S8.out.st rfl G8.out S8.out.st.only.size).mono ?_
              rintro e w9 ⟨p9, v9, rfl, s9, _⟩
              have S9 := Lib.hid (s9.quiet ((Only.refl [] w9).drew))
              clear s9 S8 G8
              go_wp2_with fail
              refine wp_region_held_drew (S := fun _ => True) (by kernel_rfl) trivial (fun hH => ?_)
              refine take_list (i := 0) (v := ?_) rfl (by kernel_rfl) (by kernel_rfl) (by kernel_rfl) (fun _ _ _ h => h) (Or.inl ⟨by rfl, ?_⟩) hH ?_
              rotate_left
              · ((intro w hSw; (try dsimp only at hSw); go_simp); try with_reducible rfl)
              simp only [Act.put, List.setIfInBounds_toArray, List.set_cons_zero, List.set_cons_succ]
              refine take_list (i := 1) (v := ?_) rfl (by kernel_rfl) (by kernel_rfl) (by kernel_rfl) (fun _ _ _ h => h) (Or.inl ⟨by rfl, ?_⟩) hH ?_
              rotate_left
              · ((intro w hSw; (try dsimp only at hSw); go_simp); try with_reducible rfl)
              simp only [Act.put, List.setIfInBounds_toArray, List.set_cons_zero, List.set_cons_succ]
              refine take_list (i := 2) (v := ?_) rfl (by kernel_rfl) (by kernel_rfl) (by kernel_rfl) (fun _ _ _ h => h) (Or.inl ⟨by rfl, ?_⟩) hH ?_
              rotate_left
              · ((intro w hSw; (try dsimp only at hSw); go_simp); try with_reducible rfl)
              simp only [Act.put, List.setIfInBounds_toArray, List.set_cons_zero, List.set_cons_succ]
              refine take_list (i := 3) (v := ?_) rfl (by kernel_rfl) (by kernel_rfl) (by kernel_rfl) (fun _ _ _ h => h) (Or.inl ⟨by rfl, ?_⟩) hH ?_
              rotate_left
              · ((intro w hSw; (try dsimp only at hSw); go_simp); try with_reducible rfl)
              simp only [Act.put, List.setIfInBounds_toArray, List.set_cons_zero, List.set_cons_succ]
              refine take_list (i := 4) (v := ?_) rfl (by kernel_rfl) (by kernel_rfl) (by kernel_rfl) (fun _ _ _ h => h) (Or.inl ⟨by rfl, ?_⟩) hH ?_
              rotate_left
              · ((intro w hSw; (try dsimp only at hSw); go_simp); try with_reducible rfl)
              simp only [Act.put, List.setIfInBounds_toArray, List.set_cons_zero, List.set_cons_succ]
              refine take_list (i := 5) (v := ?_) rfl (by kernel_rfl) (by kernel_rfl) (by kernel_rfl) (fun _ _ _ h => h) (Or.inl ⟨by rfl, ?_⟩) hH ?_
              rotate_left
              · ((intro w hSw; (try dsimp only at hSw); go_simp); try with_reducible rfl)
              simp only [Act.put, List.setIfInBounds_toArray, List.set_cons_zero, List.set_cons_succ]
              refine take_list (i := 6) (v := ?_) rfl (by kernel_rfl) (by kernel_rfl) (by kernel_rfl) (fun _ _ _ h => h) (Or.inl ⟨by rfl, ?_⟩) hH ?_
              rotate_left
              · ((intro w hSw; (try dsimp only at hSw); go_simp); try with_reducible rfl)
              simp only [Act.put, List.setIfInBounds_toArray, List.set_cons_zero, List.set_cons_succ]
              refine take_list (i := 7) (v := ?_) rfl (by kernel_rfl) (by kernel_rfl) (by kernel_rfl) (fun _ _ _ h => h) (Or.inl ⟨by rfl, ?_⟩) hH ?_
              rotate_left
              · ((intro w hSw; (try dsimp only at hSw); go_simp); try with_reducible rfl)
              simp only [Act.put, List.setIfInBounds_toArray, List.set_cons_zero, List.set_cons_succ]
              refine take_list (i := 8) (v := ?_) rfl (by kernel_rfl) (by kernel_rfl) (by kernel_rfl) (fun _ _ _ h => h) (Or.inl ⟨by rfl, ?_⟩) hH ?_
              rotate_left
              · ((intro w hSw; (try dsimp only at hSw); go_simp); try with_reducible rfl)
              simp only [Act.put, List.setIfInBounds_toArray, List.set_cons_zero, List.set_cons_succ]
              refine take_list (i := 9) (v := ?_) rfl (by kernel_rfl) (by kernel_rfl) (by kernel_rfl) (fun _ _ _ h => h) (Or.inl ⟨by rfl, ?_⟩) hH ?_
              rotate_left
              · ((intro w hSw; (try dsimp only at hSw); go_simp); try with_reducible rfl)
              simp only [Act.put, List.setIfInBounds_toArray, List.set_cons_zero, List.set_cons_succ]
              refine take_list (i := 10) (v := undef) rfl (by kernel_rfl) (by kernel_rfl) (by kernel_rfl) (fun _ _ _ h => h) (Or.inr ⟨by rfl, rfl⟩) hH ?_
              simp only [Act.put, List.setIfInBounds_toArray, List.set_cons_zero, List.set_cons_succ]
              refine take_list (i := 11) (v := undef) rfl (by kernel_rfl) (by kernel_rfl) (by kernel_rfl) (fun _ _ _ h => h) (Or.inr ⟨by rfl, rfl⟩) hH ?_
              simp only [Act.put, List.setIfInBounds_toArray, List.set_cons_zero, List.set_cons_succ]
              refine take_list (i := 12) (v := undef) rfl (by kernel_rfl) (by kernel_rfl) (by kernel_rfl) (fun _ _ _ h => h) (Or.inr ⟨by rfl, rfl⟩) hH ?_
              simp only [Act.put, List.setIfInBounds_toArray, List.set_cons_zero, List.set_cons_succ]
              refine take_list (i := 13) (v := undef) rfl (by kernel_rfl) (by kernel_rfl) (by kernel_rfl) (fun _ _ _ h => h) (Or.inr ⟨by rfl, rfl⟩) hH ?_
              simp only [Act.put, List.setIfInBounds_toArray, List.set_cons_zero, List.set_cons_succ]
              refine take_list (i := 14) (v := undef) rfl (by kernel_rfl) (by kernel_rfl) (by kernel_rfl) (fun _ _ _ h => h) (Or.inr ⟨by rfl, rfl⟩) hH ?_
              simp only [Act.put, List.setIfInBounds_toArray, List.set_cons_zero, List.set_cons_succ]
              refine take_list (i := 15) (v := undef) rfl (by kernel_rfl) (by kernel_rfl) (by kernel_rfl) (fun _ _ _ h => h) (Or.inr ⟨by rfl, rfl⟩) hH ?_
              simp only [Act.put, List.setIfInBounds_toArray, List.set_cons_zero, List.set_cons_succ]
              refine take_list (i := 16) (v := undef) rfl (by kernel_rfl) (by kernel_rfl) (by kernel_rfl) (fun _ _ _ h => h) (Or.inr ⟨by rfl, rfl⟩) hH ?_
              simp only [Act.put, List.setIfInBounds_toArray, List.set_cons_zero, List.set_cons_succ]
              refine take_list (i := 17) (v := undef) rfl (by kernel_rfl) (by kernel_rfl) (by kernel_rfl) (fun _ _ _ h => h) (Or.inr ⟨by rfl, rfl⟩) hH ?_
              simp only [Act.put, List.setIfInBounds_toArray, List.set_cons_zero, List.set_cons_succ]
              refine take_list (i := 18) (v := undef) rfl (by kernel_rfl) (by kernel_rfl) (by kernel_rfl) (fun _ _ _ h => h) (Or.inr ⟨by rfl, rfl⟩) hH ?_
              simp only [Act.put, List.setIfInBounds_toArray, List.set_cons_zero, List.set_cons_succ]
              refine take_list (i := 19) (v := undef) rfl (by kernel_rfl) (by kernel_rfl) (by kernel_rfl) (fun _ _ _ h => h) (Or.inr ⟨by rfl, rfl⟩) hH ?_
              simp only [Act.put, List.setIfInBounds_toArray, List.set_cons_zero, List.set_cons_succ]
              refine take_list (i := 20) (v := undef) rfl (by kernel_rfl) (by kernel_rfl) (by kernel_rfl) (fun _ _ _ h => h) (Or.inr ⟨by rfl, rfl⟩) hH ?_
              simp only [Act.put, List.setIfInBounds_toArray, List.set_cons_zero, List.set_cons_succ]
              refine take_list (i := 21) (v := ?_) rfl (by kernel_rfl) (by kernel_rfl) (by kernel_rfl) (fun _ _ _ h => h) (Or.inl ⟨by rfl, ?_⟩) hH ?_
              rotate_left
              · ((intro w hSw; (try dsimp only at hSw); go_simp); try with_reducible rfl)
              simp only [Act.put, List.setIfInBounds_toArray, List.set_cons_zero, List.set_cons_succ]
              refine take_list (i := 22) (v := ?_) rfl (by kernel_rfl) (by kernel_rfl) (by kernel_rfl) (fun _ _ _ h => h) (Or.inl ⟨by rfl, ?_⟩) hH ?_
              rotate_left
              · ((intro w hSw; (try dsimp only at hSw); go_simp); try with_reducible rfl)
              simp only [Act.put, List.setIfInBounds_toArray, List.set_cons_zero, List.set_cons_succ]
              refine wpAnyH_done (by kernel_rfl) ?_ _
              clear hH
              go_wp2_with fail
              refine (row_slot _ S9.out.slot lr rfl).mono ?_
              rintro e w10 ⟨b10, k10, rfl, h10, o10⟩
              obtain ⟨S, hS⟩ : ∃ S, S = strOf lr := ⟨_, rfl⟩
              have sr := str_bytes h10.bytes hS
              have S10 := Lib.hid (S9.out.quiet o10)
              have sl := str_bytes (HBY.out.kept S10.out.st.only (clean_nil _)) hS
              have c0 : w10.cell? ⟨g, 0, none⟩ = some (.slice (some ⟨gr, gof, none⟩) ls.length rc) := (cell_at 0 (S10.out.st.only.heap B2.out (by simp))).trans rfl
              have hcell : w10.cell? ⟨gr, gof + n, none⟩ = some (.slice a' lr.length cap') := cell_kept S10.out.st.only HC0.out (by simp)
              clear S9 h10 o10 hS
              go_wp2_with fail
              refine (number_slot _ S10.out.slot ((n : Int) + 2) (by show (n : Int) + 1 + 1 = _; omega)).mono ?_
              rintro e w' ⟨rfl, rfl⟩
              go_wp2_with fail
              go_ret
              exact ⟨by simp, Q2.out.trans S10.out.st.only (by simp)⟩
            · have hc3 := h03.resolve_left hcz
              rw [hc3]
              rw [show errV 3 = err 3 from rfl]
              rw [if_neg hcz] at s7
              have hno' := hno hcz ks
              generalize d6.ly (⟨1, (n : Int) + 1, wl, false⟩ : SL).place ((⟨1, (n : Int) + 1, wl, false⟩ : SL).sec lr) = d7 at s7 hno'
              have S7 := Lib.hid s7
              have HNO := Lib.hid hno'
              clear s7 hyes hno hno' h03 hcz hc3 G6
              go_wp2_with fail
              clear c2
              refine (crash_sst' _ ks S7.out K2.out HKL.out).mono ?_
              rintro e w8 ⟨rfl, s8, o8⟩
              obtain ⟨s', D', hD', hh, hat, hrow⟩ : ∃ s' D', d7.crash ks = D' ∧ Holds D' s' ∧ s'.at_ = 1 ∧ ((s'.n = (n : Int) + 2 ∧ s'.row = lr) ∨ (s'.n = (n : Int) + 1 ∧ s'.row = wl)) := by
                rcases HNO.out with h | h
                · exact ⟨_, _, rfl, h, rfl, .inr ⟨rfl, rfl⟩⟩
                · exact ⟨_, _, rfl, h, rfl, .inl ⟨by show (n : Int) + 1 + 1 = _; omega, rfl⟩⟩
              have hdn : D'.met.down = false := by rw [← hD']; rfl
              rw [hD'] at s8
              have S8 := Lib.hid s8
              have W8 := Lib.hid (S7.out.bytes W7.out (o8.mono (fun k hk => by simp [SA, hk])))
              have HH := Lib.hid hh
              have HROW := Lib.hid hrow
              have HDN := Lib.hid hdn
              clear s8 o8 S7 W7 HNO hD' hh hrow hdn
              go_wp2_with fail
              have ho := open_holds S8.out.st HDN.out HH.out S8.out.st.only.size
              rw [hat] at ho
              refine ho.mono ?_
              rintro e w9 ⟨p9, v9, rfl, s9, o9⟩
              have qd : Only [] w9 w9.drew := (Only.refl [] w9).drew
              have S9 := Lib.hid (s9.quiet qd)
              have S89 := Lib.hid ((S8.out.quiet o9).quiet qd)
              have W9 := Lib.hid ((W8.out.kept o9 (clean_nil _)).kept qd (clean_nil _))
              obtain ⟨S, hS⟩ : ∃ S, S = strOf wl := ⟨_, rfl⟩
              have HS := Lib.hid hS
              have sw := str_bytes W9.out hS
              clear ho s9 o9 qd S8 W8 HH HDN hS
              have qn := err_n33
              go_wp2_with fail
              refine wp_region_held_drew (S := fun w' => (convert 37 9 (.slice wa wl.length wc)).run Try.prog w' = .ok (.string S) w') (by kernel_rfl) sw (fun hH => ?_)
              clear sw
              refine take_list (i := 0) (v := ?_) rfl (by kernel_rfl) (by kernel_rfl) (by kernel_rfl) (fun _ _ _ h => h) (Or.inl ⟨by rfl, ?_⟩) hH ?_
              rotate_left
              · ((intro w hSw; (try dsimp only at hSw); go_simp); try with_reducible rfl)
              simp only [Act.put, List.setIfInBounds_toArray, List.set_cons_zero, List.set_cons_succ]
              refine take_list (i := 1) (v := ?_) rfl (by kernel_rfl) (by kernel_rfl) (by kernel_rfl) (fun _ _ _ h => h) (Or.inl ⟨by rfl, ?_⟩) hH ?_
              rotate_left
              · ((intro w hSw; (try dsimp only at hSw); go_simp); try with_reducible rfl)
              simp only [Act.put, List.setIfInBounds_toArray, List.set_cons_zero, List.set_cons_succ]
              refine take_list (i := 2) (v := ?_) rfl (by kernel_rfl) (by kernel_rfl) (by kernel_rfl) (fun _ _ _ h => h) (Or.inl ⟨by rfl, ?_⟩) hH ?_
              rotate_left
              · ((intro w hSw; (try dsimp only at hSw); go_simp); try with_reducible rfl)
              simp only [Act.put, List.setIfInBounds_toArray, List.set_cons_zero, List.set_cons_succ]
              refine take_list (i := 3) (v := ?_) rfl (by kernel_rfl) (by kernel_rfl) (by kernel_rfl) (fun _ _ _ h => h) (Or.inl ⟨by rfl, ?_⟩) hH ?_
              rotate_left
              · ((intro w hSw; (try dsimp only at hSw); go_simp); try with_reducible rfl)
              simp only [Act.put, List.setIfInBounds_toArray, List.set_cons_zero, List.set_cons_succ]
              refine take_list (i := 4) (v := ?_) rfl (by kernel_rfl) (by kernel_rfl) (by kernel_rfl) (fun _ _ _ h => h) (Or.inl ⟨by rfl, ?_⟩) hH ?_
              rotate_left
              · ((intro w hSw; (try dsimp only at hSw); go_simp); try with_reducible rfl)
              simp only [Act.put, List.setIfInBounds_toArray, List.set_cons_zero, List.set_cons_succ]
              refine take_list (i := 5) (v := ?_) rfl (by kernel_rfl) (by kernel_rfl) (by kernel_rfl) (fun _ _ _ h => h) (Or.inl ⟨by rfl, ?_⟩) hH ?_
              rotate_left
              · ((intro w hSw; (try dsimp only at hSw); go_simp); try with_reducible rfl)
              simp only [Act.put, List.setIfInBounds_toArray, List.set_cons_zero, List.set_cons_succ]
              refine take_list (i := 6) (v := ?_) rfl (by kernel_rfl) (by kernel_rfl) (by kernel_rfl) (fun _ _ _ h => h) (Or.inl ⟨by rfl, ?_⟩) hH ?_
              rotate_left
              · ((intro w hSw; (try dsimp only at hSw); go_simp); try with_reducible rfl)
              simp only [Act.put, List.setIfInBounds_toArray, List.set_cons_zero, List.set_cons_succ]
              refine take_list (i := 7) (v := ?_) rfl (by kernel_rfl) (by kernel_rfl) (by kernel_rfl) (fun _ _ _ h => h) (Or.inl ⟨by rfl, ?_⟩) hH ?_
              rotate_left
              · ((intro w hSw; (try dsimp only at hSw); go_simp); try with_reducible rfl)
              simp only [Act.put, List.setIfInBounds_toArray, List.set_cons_zero, List.set_cons_succ]
              refine take_list (i := 8) (v := ?_) rfl (by kernel_rfl) (by kernel_rfl) (by kernel_rfl) (fun _ _ _ h => h) (Or.inl ⟨by rfl, ?_⟩) hH ?_
              rotate_left
              · ((intro w hSw; (try dsimp only at hSw); go_simp); try with_reducible rfl)
              simp only [Act.put, List.setIfInBounds_toArray, List.set_cons_zero, List.set_cons_succ]
              refine take_list (i := 9) (v := ?_) rfl (by kernel_rfl) (by kernel_rfl) (by kernel_rfl) (fun _ _ _ h => h) (Or.inl ⟨by rfl, ?_⟩) hH ?_
              rotate_left
              · ((intro w hSw; (try dsimp only at hSw); go_simp); try with_reducible rfl)
              simp only [Act.put, List.setIfInBounds_toArray, List.set_cons_zero, List.set_cons_succ]
              refine take_list (i := 10) (v := ?_) rfl (by kernel_rfl) (by kernel_rfl) (by kernel_rfl) (fun _ _ _ h => h) (Or.inl ⟨by rfl, ?_⟩) hH ?_
              rotate_left
              · ((intro w hSw; (try dsimp only at hSw); go_simp); try with_reducible rfl)
              simp only [Act.put, List.setIfInBounds_toArray, List.set_cons_zero, List.set_cons_succ]
              refine take_list (i := 11) (v := ?_) rfl (by kernel_rfl) (by kernel_rfl) (by kernel_rfl) (fun _ _ _ h => h) (Or.inl ⟨by rfl, ?_⟩) hH ?_
              rotate_left
              · ((intro w hSw; (try dsimp only at hSw); go_simp); try with_reducible rfl)
              simp only [Act.put, List.setIfInBounds_toArray, List.set_cons_zero, List.set_cons_succ]
              refine take_list (i := 12) (v := ?_) rfl (by kernel_rfl) (by kernel_rfl) (by kernel_rfl) (fun _ _ _ h => h) (Or.inl ⟨by rfl, ?_⟩) hH ?_
              rotate_left
              · ((intro w hSw; (try dsimp only at hSw); go_simp); try with_reducible rfl)
              simp only [Act.put, List.setIfInBounds_toArray, List.set_cons_zero, List.set_cons_succ]
              refine take_list (i := 13) (v := ?_) rfl (by kernel_rfl) (by kernel_rfl) (by kernel_rfl) (fun _ _ _ h => h) (Or.inl ⟨by rfl, ?_⟩) hH ?_
              rotate_left
              · ((intro w hSw; (try dsimp only at hSw); go_simp); try with_reducible rfl)
              simp only [Act.put, List.setIfInBounds_toArray, List.set_cons_zero, List.set_cons_succ]
              refine take_list (i := 14) (v := ?_) rfl (by kernel_rfl) (by kernel_rfl) (by kernel_rfl) (fun _ _ _ h => h) (Or.inl ⟨by rfl, ?_⟩) hH ?_
              rotate_left
              · ((intro w hSw; (try dsimp only at hSw); go_simp); try with_reducible rfl)
              simp only [Act.put, List.setIfInBounds_toArray, List.set_cons_zero, List.set_cons_succ]
              refine take_list (i := 17) (v := ?_) rfl (by kernel_rfl) (by kernel_rfl) (by kernel_rfl) (fun _ _ _ h => h) (Or.inl ⟨by rfl, ?_⟩) hH ?_
              rotate_left
              · ((intro w hSw; (try dsimp only at hSw); go_simp); try with_reducible rfl)
              simp only [Act.put, List.setIfInBounds_toArray, List.set_cons_zero, List.set_cons_succ]
              refine take_list (i := 18) (v := ?_) rfl (by kernel_rfl) (by kernel_rfl) (by kernel_rfl) (fun _ _ _ h => h) (Or.inl ⟨by rfl, ?_⟩) hH ?_
              rotate_left
              · ((intro w hSw; (try dsimp only at hSw); go_simp); try with_reducible rfl)
              simp only [Act.put, List.setIfInBounds_toArray, List.set_cons_zero, List.set_cons_succ]
              refine wpAnyH_ready (rs := [15]) (by kernel_rfl) (by simp) ?_
              refine ready_list rfl (fun K hK => ?_)
              go_simp
              refine (row_slot _ S89.out.slot wl rfl).mono ?_
              rintro e w10 ⟨b10, k10, rfl, h10, o10⟩
              have W10 := Lib.hid (W9.out.kept o10 (clean_nil _))
              have S10 := Lib.hid (S9.out.quiet o10)
              have B10 := Lib.hid h10.bytes
              refine hK.out _ _ (str_bytes W10.out HS.out) (fun _ => ?_)
              clear hK K hH h10 o10 W9 S9 S89
              refine wpAnyH_sharpen (S' := fun w' => (convert 37 9 (.slice b10 wl.length k10)).run Try.prog w' = .ok (.string S) w' ∧ (convert 37 9 (.slice wa wl.length wc)).run Try.prog w' = .ok (.string S) w') (fun _ h => h.2) ?_
              have hH := And.intro (str_bytes B10.out HS.out) (str_bytes W10.out HS.out)
              refine take_list (i := 16) (v := ?_) rfl (by kernel_rfl) (by kernel_rfl) (by kernel_rfl) (fun _ _ _ h => h) (Or.inl ⟨by rfl, ?_⟩) hH ?_
              rotate_left
              · ((intro w hSw; (try dsimp only at hSw); go_simp); try with_reducible rfl)
              simp only [Act.put, List.setIfInBounds_toArray, List.set_cons_zero, List.set_cons_succ]
              refine take_list (i := 19) (v := ?_) rfl (by kernel_rfl) (by kernel_rfl) (by kernel_rfl) (fun _ _ _ h => h) (Or.inl ⟨by rfl, ?_⟩) hH ?_
              rotate_left
              · ((intro w hSw; (try dsimp only at hSw); go_simp); try with_reducible rfl)
              simp only [Act.put, List.setIfInBounds_toArray, List.set_cons_zero, List.set_cons_succ]
              refine take_list (i := 20) (v := ?_) rfl (by kernel_rfl) (by kernel_rfl) (by kernel_rfl) (fun _ _ _ h => h) (Or.inl ⟨by rfl, ?_⟩) hH ?_
              rotate_left
              · ((intro w hSw; (try dsimp only at hSw); go_simp); try with_reducible rfl)
              simp only [Act.put, List.setIfInBounds_toArray, List.set_cons_zero, List.set_cons_succ]
              refine take_list (i := 21) (v := ?_) rfl (by kernel_rfl) (by kernel_rfl) (by kernel_rfl) (fun _ _ _ h => h) (Or.inl ⟨by rfl, ?_⟩) hH ?_
              rotate_left
              · ((intro w hSw; (try dsimp only at hSw); go_simp); try with_reducible rfl)
              simp only [Act.put, List.setIfInBounds_toArray, List.set_cons_zero, List.set_cons_succ]
              refine take_list (i := 22) (v := ?_) rfl (by kernel_rfl) (by kernel_rfl) (by kernel_rfl) (fun _ _ _ h => h) (Or.inl ⟨by rfl, ?_⟩) hH ?_
              rotate_left
              · ((intro w hSw; (try dsimp only at hSw); go_simp); try with_reducible rfl)
              simp only [Act.put, List.setIfInBounds_toArray, List.set_cons_zero, List.set_cons_succ]
              refine wpAnyH_done (by kernel_rfl) ?_ _
              clear hH B10 qn
              go_wp2_with fail
              obtain ⟨SL2, hSL⟩ : ∃ S, S = strOf lr := ⟨_, rfl⟩
              have HSL := Lib.hid hSL
              clear hSL
              have hn2 : IntKind.i64.wrap ((n : Int) + 2) = (n : Int) + 2 := by rw [IntKind.wrap_i64]; omega
              have hn1 : IntKind.i64.wrap ((n : Int) + 1) = (n : Int) + 1 := by rw [IntKind.wrap_i64]; omega
              rcases HROW.out with ⟨hnn, hrr⟩ | ⟨hnn, hrr⟩
              · refine (row_slot _ S10.out.slot lr hrr).mono ?_
                rintro e w11 ⟨b11, k11, rfl, h11, o11⟩
                have sr := str_bytes h11.bytes HSL.out
                have S11 := Lib.hid (S10.out.quiet o11)
                have sl := str_bytes (HBY.out.kept S11.out.st.only (clean_nil _)) HSL.out
                have c0 : w11.cell? ⟨g, 0, none⟩ = some (.slice (some ⟨gr, gof, none⟩) ls.length rc) := (cell_at 0 (S11.out.st.only.heap B2.out (by simp))).trans rfl
                have hcell : w11.cell? ⟨gr, gof + n, none⟩ = some (.slice a' lr.length cap') := cell_kept S11.out.st.only HC0.out (by simp)
                clear S10 h11 o11 hrr W10
                go_wp2_with fail
                refine (number_slot _ S11.out.slot ((n : Int) + 2) hnn).mono ?_
                rintro e w' ⟨rfl, rfl⟩
                go_wp2_with fail
                go_ret
                exact ⟨by simp, Q2.out.trans S11.out.st.only (by simp)⟩
              · refine (row_slot _ S10.out.slot wl hrr).mono ?_
                rintro e w11 ⟨b11, k11, rfl, h11, o11⟩
                have sr := str_bytes h11.bytes HS.out
                have S11 := Lib.hid (S10.out.quiet o11)
                have sw := str_bytes (W10.out.kept o11 (clean_nil _)) HS.out
                have sl := str_bytes (HBY.out.kept S11.out.st.only (clean_nil _)) HSL.out
                have c0 : w11.cell? ⟨g, 0, none⟩ = some (.slice (some ⟨gr, gof, none⟩) ls.length rc) := (cell_at 0 (S11.out.st.only.heap B2.out (by simp))).trans rfl
                have hcell : w11.cell? ⟨gr, gof + n, none⟩ = some (.slice a' lr.length cap') := cell_kept S11.out.st.only HC0.out (by simp)
                clear S10 h11 o11 hrr W10
                have hne12 : ((n : Int) + 1 == (n : Int) + 2) = false := beq_eq_false_iff_ne.2 (by omega)
                by_cases heq : wl = lr
                · subst heq
                  obtain rfl : SL2 = S := by rw [HSL.out, HS.out]
                  go_wp2_with fail
                  refine (number_slot _ S11.out.slot ((n : Int) + 1) hnn).mono ?_
                  rintro e w' ⟨rfl, rfl⟩
                  go_wp2_with fail
                  refine (number_slot _ S11.out.slot ((n : Int) + 1) hnn).mono ?_
                  rintro e w' ⟨rfl, rfl⟩
                  go_wp2_with fail
                  go_ret
                  exact ⟨by simp, Q2.out.trans S11.out.st.only (by simp)⟩
                · have hne : (S.toList == SL2.toList) = false := strs_ne HS.out HSL.out heq
                  go_wp2_with fail
                  refine (number_slot _ S11.out.slot ((n : Int) + 1) hnn).mono ?_
                  rintro e w' ⟨rfl, rfl⟩
                  go_wp2_with fail
                  go_ret
                  exact ⟨by simp, Q2.out.trans S11.out.st.only (by simp)⟩

set_option maxRecDepth 100000 in
theorem scuts_lifted (os : Os) (started : os.Started) (H : Type) (enc : TypeId × Value → H) :
    ReturnsInHanded {} Try.checked os 4 .any (Rows.slotCutsSpec.pre6 enc Try.prog Try.f4 Rows.slotCutsRow.domain false) (Rows.slotCutsSpec.post enc Try.prog Try.f4 false true false false) := by
  refine returnsInHanded_of_change (C := Try.checked) law_own started (by kernel_rfl) Try.func4
    (ChangeSpec.witness6 (enc := enc) (C := Try.checked) false ⟨#[], #[.agg #[.slice none 0 0, .int .i64 0, .slice none 0 0]], []⟩ 8 (by kernel_rfl) (by kernel_rfl) (by kernel_rfl) (by kernel_rfl)) ?_
  intro W base args ds gs before hval0 hW hcnd _
  have hval : ∀ (j : Nat) t v, Try.f4.params[j]? = some t → args[j]? = some v → Value.okWide Try.prog W .any base t v := hval0
  have hW' := hW
  obtain ⟨p, q, hA0, hV, rfl, hfz, hnd⟩ := hW
  have hA : DataW.TrodAll enc Try.prog W 0 (fun _ => true) true Try.f4.params.toList args.toList ds p := hA0
  rw [Try.params4] at hA hval
  obtain ⟨v0, vs0, d0, ds0, p0, q0, hargs, rfl, rfl, h0, r0⟩ := trodAll_cons hA
  obtain ⟨rfl, rfl, rfl⟩ := trodAll_nil r0
  obtain rfl : args = #[v0] := by cases args; simp_all
  obtain ⟨rfl, rfl⟩ := trodVars_none hV
  have h0' := h0
  obtain ⟨b0, l0, a0, e0, m0, rfl, hb0, hf0, hl0, hx0, wa0, hm0, hn0⟩ := open_cut (hval 0 45 v0 rfl rfl) h0
  have hlt0 : ∀ x ∈ p0, x.block < W.heap.size := fun x hx => hW'.lt x (by simp [hx])
  clear hA0 hval0
  refine (scuts_walk b0 a0 e0 l0 m0 W hb0 hf0 hl0 hx0 wa0 hm0 hn0).mono fun e W' ⟨he, hg⟩ => ?_
  subst he
  exact ⟨_, rfl, post_quiet (pa := (p0 ++ [])) (pv := []) hW' hg (fun _ _ _ => (trodAll_cons_mk (shut_bool Try.underlying4 _) trodAll_mk0)) (fun sp hsp => (trodAll_cons_mk (arg_stays (by kernel_rfl) (of_decide_eq_true (by kernel_rfl)) h0' hg hlt0 (fun x hx => hsp x (by simp [hx]))) trodAll_mk0)) (fun _ _ => rfl) (by simp) (ok_one (by kernel_rfl) rfl (okWide_bool_mk Try.underlying4 _))⟩

theorem scuts_over : Rows.slotCutsRow.holds Try.pinned (OpenSpec.ofChange Rows.slotCutsSpec) :=
  OpenClaim.holds_of_wide 4 Try.f4 rfl rfl rfl rfl rfl rfl rfl ⟨rfl, rfl, rfl, rfl, rfl⟩ rfl rfl rfl rfl rfl (by kernel_rfl) Try.func4 (by kernel_rfl)
    (of_decide_eq_true (by kernel_rfl)) (by unfold Func.isWrapper; first | (rw [if_pos (by decide +kernel)]; kernel_rfl) | (rw [if_neg (by decide +kernel)]; exact ⟨rfl, rfl⟩))
    (fun os started H enc _ => scuts_lifted os started H enc)

/-- The statement. -/
theorem scuts_holds : Rows.SlotCutsSaid :=
  scuts_over
#print axioms scuts_holds
end Go.Proofs.Ytdmkmjlkogkmgaa
