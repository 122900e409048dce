/- JournalTwice: whatever the lengths, the sectors that are kept and the step at which power goes, an opening changes nothing: opened again and again, with crashes between, the journal shows the same. No condition. -/
import Derived.Test.YtmjnbpcjpjefeaaJh
namespace Go.Proofs.Ytmjnbpcjpjefeaa
open Go.ChangeShapes Go.WideShapes Go.ChangeAt Go.RowKit Go.Maps
set_option linter.unusedVariables false
set_option linter.unusedSimpArgs false

/-- A journal of 60 sectors from its beginning on. -/
structure Bt (d : Disk) (s : SL) (j : JL) : Prop where
  good : JGood d s j
  calm : d.Calm
  n : j.n = 60
  at_ : j.at_ = 1
  first : j.first = 1
  start : j.start = 0
section
variable {d : Disk} {s : SL} {j : JL} {r : Sec}
theorem Bt.big (h : Bt d s j) (hj : JOk j) : JBig j := by
  have h1 := hj.stream
  have h2 := hj.room
  have h3 := hj.nm
  have h4 := flat_count j.recs
  rw [h.start] at h1
  refine ⟨?_, ?_⟩
  · unfold JL.fin
    rw [h.start]
    omega
  · unfold JL.next
    rw [h.first]
    omega
theorem Bt.put (h : Bt d s j) (hj : JOk j) : Bt d s (j.put r) := ⟨h.good.put hj.fl, h.calm, h.n, h.at_, h.first, h.start⟩
theorem Bt.flush (h : Bt d s j) (hj : JOk j) (hn : s.n < 4611686018427387904) : (j.flushR d s).c = 0 ∧ Bt (j.flushR d s).d (j.flushR d s).s (j.flushR d s).j ∧ (j.flushR d s).s.n ≤ s.n + 1 := by
  obtain ⟨fc, fm⟩ := flush_calm hj (h.big hj) h.good hn h.calm
  rcases flush_good hj (h.big hj) h.good hn with ⟨_, fj, fg, fn⟩ | ⟨c3, _⟩
  · rw [fj]
    exact ⟨fc, ⟨fg, fm, h.n, h.at_, h.first, h.start⟩, fn⟩
  · rw [fc] at c3
    cases c3
end

theorem nil_err (w : World) : (binOp .eql 27 (err 5) .nilIface).run Try.prog w = .ok (.bool false) w := by kernel_rfl
set_option maxRecDepth 100000 in
set_option maxHeartbeats 1500000 in
theorem jtwice_walk (v kv : Value) (t : Int) (ls ks : List Int) (w : World) (hv : IntsV w v ls) (hl : ls.length ≤ maxLen) (hk : IntsV w kv ks) (hkl : ks.length ≤ maxLen) (ht : (Lit.int .i64 t).wf = true) :
    Calls Try.prog 6 #[v, kv, .int .i64 t] w fun e w' => e = .returned (.bool true) ∧ Only [] w w' := by
  obtain ⟨va, vc, rfl, -⟩ := id hv
  obtain ⟨ka, kc, rfl, -⟩ := id hk
  have HV := Lib.hid hv
  have HK := Lib.hid hk
  have HKL := Lib.hid (show ks.length ≤ 9223372036854775807 by unfold maxLen at hkl; omega)
  clear hv hk ht
  obtain ⟨tt, htt, et⟩ := modU t 7 (by decide) (by decide)
  have q0 := iface_nil
  have q1 := iface_ne
  have q2 := iface_nerr
  have qe := nil_err
  go_enter Try.func6, Try.ntmps6
  go_wp2_with fail
  refine (alive4_any _).mono ?_
  rintro e w1 ⟨rfl, o1⟩
  have O1 := Lib.hid o1
  have V1 := Lib.hid (HV.out.kept o1 (fun _ _ _ _ _ => by simp))
  have K1 := Lib.hid (HK.out.kept o1 (fun _ _ _ _ _ => by simp))
  clear o1 HV HK
  by_cases hlen : 40 < ls.length
  · have hlen' : (40 : Int) < (ls.length : Int) := by omega
    go_wp2_with fail
    go_ret
    exact ⟨rfl, O1.out⟩
  have hlen' : ¬ (40 : Int) < (ls.length : Int) := by omega
  by_cases hken : 60 < ks.length
  · have hken' : (60 : Int) < (ks.length : Int) := by omega
    go_wp2_with fail
    go_ret
    exact ⟨rfl, O1.out⟩
  have hken' : ¬ (60 : Int) < (ks.length : Int) := by omega
  go_wp2_with fail
  refine (begun_any 60 w1 (by omega) (by omega)).mono ?_
  rintro e w2 ⟨m, p, q, a2, d, rfl, s2, m2, g2, -⟩
  have S2 := Lib.hid s2
  have B2 := Lib.hid (show Bt d ⟨1, 1, row0, false⟩ (JL.new 1 60) from ⟨g2, m2, rfl, rfl, rfl, rfl⟩)
  clear s2 m2 g2
  generalize JL.new 1 60 = j2 at S2 B2
  go_wp2_with fail
  go_loopw [8, 9, 37] (fun _ _ i wr => ∃ (k : Nat) (d : Disk) (j : JL) (s : SL), i = .int .i64 k ∧ k ≤ ls.length ∧ JMo w1 wr m p q a2 d j s ∧ Bt d s j ∧ s.n ≤ k + 1) (fun _ _ i _ => ls.length - (intOf i).toNat)
  case atStart => exact ⟨0, d, j2, _, rfl, by omega, S2.out, B2.out, by decide⟩
  case round =>
    obtain ⟨k, d, j, s, rfl, hk, s4, b4, n4⟩ := hrel
    have S4 := Lib.hid s4
    have B4 := Lib.hid b4
    have N4 := Lib.hid n4
    have V4 := Lib.hid (V1.out.kept s4.only (fun _ _ _ _ _ => by simp))
    clear s4 b4 n4 S2 B2
    by_cases hlt : k < ls.length
    · have hkl : ls[k]? = some ls[k] := List.getElem?_eq_getElem hlt
      obtain ⟨hwf, bb, off, cap1, hva, hcell⟩ := V4.out.at_ hkl
      cases hva
      clear hkl
      generalize ls[k] = x at hwf hcell
      obtain ⟨j5, hj5, e5⟩ := modU x 1200 (by decide) (by decide)
      obtain ⟨z, hz⟩ : ∃ z : Nat, z = j5 + 1 := ⟨_, rfl⟩
      have E5 := Lib.hid (show IntKind.i64.wrap ((1 : Int) + (j5 : Int)) = (z : Int) by rw [IntKind.wrap_i64]; omega)
      have hz1 : 1 ≤ z := by omega
      have hz2 : z ≤ 4096 := by omega
      have k0 : (0 : Int) ≤ (k : Int) := by omega
      have k9 : (k : Int) ≤ 40 := by omega
      clear hz et htt
      go_wp2_with fail
      have o4 : Only [] wr wr.drew := (Only.refl [] wr).drew
      have S5 := Lib.hid (S4.out.quiet o4)
      have c2 : wr.drew.cell? ⟨m, 2, none⟩ = some (.pointer (some ⟨p, 0, none⟩)) := S5.out.c2
      clear o4 S4 hcell hwf
      refine wp_region_held_drew (S := fun w' => w'.cell? ⟨m, 2, none⟩ = some (.pointer (some ⟨p, 0, none⟩))) (by kernel_rfl) c2 (fun hH => ?_)
      refine take_list (i := 0) (v := ?_) rfl (by kernel_rfl) (by kernel_rfl) (by kernel_rfl) (fun _ _ _ h => h) (Or.inl ⟨by rfl, ?_⟩) hH ?_
      rotate_left
      · ((intro w hSw; (try dsimp only at hSw); go_simp); try with_reducible rfl)
      simp only [Act.put, List.setIfInBounds_toArray, List.set_cons_zero, List.set_cons_succ]
      refine take_list (i := 1) (v := ?_) rfl (by kernel_rfl) (by kernel_rfl) (by kernel_rfl) (fun _ _ _ h => h) (Or.inl ⟨by rfl, ?_⟩) hH ?_
      rotate_left
      · ((intro w hSw; (try dsimp only at hSw); go_simp); try with_reducible rfl)
      simp only [Act.put, List.setIfInBounds_toArray, List.set_cons_zero, List.set_cons_succ]
      refine take_list (i := 2) (v := ?_) rfl (by kernel_rfl) (by kernel_rfl) (by kernel_rfl) (fun _ _ _ h => h) (Or.inl ⟨by rfl, ?_⟩) hH ?_
      rotate_left
      · ((intro w hSw; (try dsimp only at hSw); go_simp); try with_reducible rfl)
      simp only [Act.put, List.setIfInBounds_toArray, List.set_cons_zero, List.set_cons_succ]
      refine take_list (i := 3) (v := ?_) rfl (by kernel_rfl) (by kernel_rfl) (by kernel_rfl) (fun _ _ _ h => h) (Or.inl ⟨by rfl, ?_⟩) hH ?_
      rotate_left
      · ((intro w hSw; (try dsimp only at hSw); go_simp); try with_reducible rfl)
      simp only [Act.put, List.setIfInBounds_toArray, List.set_cons_zero, List.set_cons_succ]
      refine take_list (i := 4) (v := ?_) rfl (by kernel_rfl) (by kernel_rfl) (by kernel_rfl) (fun _ _ _ h => h) (Or.inl ⟨by rfl, ?_⟩) hH ?_
      rotate_left
      · ((intro w hSw; (try dsimp only at hSw); go_simp); try with_reducible rfl)
      simp only [Act.put, List.setIfInBounds_toArray, List.set_cons_zero, List.set_cons_succ]
      refine take_list (i := 5) (v := ?_) rfl (by kernel_rfl) (by kernel_rfl) (by kernel_rfl) (fun _ _ _ h => h) (Or.inl ⟨by rfl, ?_⟩) hH ?_
      rotate_left
      · ((intro w hSw; (try dsimp only at hSw); go_simp); try with_reducible rfl)
      simp only [Act.put, List.setIfInBounds_toArray, List.set_cons_zero, List.set_cons_succ]
      refine take_list (i := 6) (v := ?_) rfl (by kernel_rfl) (by kernel_rfl) (by kernel_rfl) (fun _ _ _ h => h) (Or.inl ⟨by rfl, ?_⟩) hH ?_
      rotate_left
      · ((intro w hSw; (try dsimp only at hSw); go_simp); try with_reducible rfl)
      simp only [Act.put, List.setIfInBounds_toArray, List.set_cons_zero, List.set_cons_succ]
      refine take_list (i := 7) (v := ?_) rfl (by kernel_rfl) (by kernel_rfl) (by kernel_rfl) (fun _ _ _ h => h) (Or.inl ⟨by rfl, ?_⟩) hH ?_
      rotate_left
      · ((intro w hSw; (try dsimp only at hSw); go_simp); try with_reducible rfl)
      simp only [Act.put, List.setIfInBounds_toArray, List.set_cons_zero, List.set_cons_succ]
      refine take_list (i := 8) (v := ?_) rfl (by kernel_rfl) (by kernel_rfl) (by kernel_rfl) (fun _ _ _ h => h) (Or.inl ⟨by rfl, ?_⟩) hH ?_
      rotate_left
      · ((intro w hSw; (try dsimp only at hSw); go_simp); try with_reducible rfl)
      simp only [Act.put, List.setIfInBounds_toArray, List.set_cons_zero, List.set_cons_succ]
      refine wpAnyH_ready (rs := [9]) (by kernel_rfl) (by simp) ?_
      refine ready_list rfl (fun K hK => ?_)
      refine step_make_zero (by rfl) (.tmp 51) (.tmp 51) (by rfl) z (by rw [← E5.out]; rfl) (by rw [← E5.out]; rfl) (by omega) (fun w5 g5 b5 hg5 o5 => ?_)
      have c2 : w5.cell? ⟨m, 2, none⟩ = some (.pointer (some ⟨p, 0, none⟩)) := (S5.out.quiet o5).c2
      refine hK.out _ _ c2 (fun hH => ?_)
      clear hK K c2
      refine wpAnyH_ready (rs := [10]) (by kernel_rfl) (by simp) ?_
      refine ready_list rfl (fun K hK => ?_)
      go_simp
      refine (append_mo S5.out o5 (B4.out.big S5.out.ok) _ (zs z) (zeros_at b5) (fresh_at hg5) (by rw [zs_length]; omega)).mono ?_
      rintro e w6 ⟨rfl, s6⟩
      have J5 := Lib.hid S5.out.ok
      have S6 := Lib.hid s6
      have c2 : w6.cell? ⟨m, 2, none⟩ = some (.pointer (some ⟨p, 0, none⟩)) := s6.c2
      refine hK.out _ _ c2 (fun hH => ?_)
      clear hK K c2 s6 b5 hg5 o5 S5 e5 hj5 E5
      by_cases hr : (2 : Int) + ((zs z).length : Int) ≤ j.free - j.booked
      · have hc := acode_0 B4.out.good.dead (by rw [zs_length]; exact hz1) (by rw [zs_length]; exact hz2) hr
        rw [(added_0 hc).1] at S6
        rw [hc, (added_0 hc).2, errV_z rfl]
        have B6 := Lib.hid (B4.out.put (r := zs z) J5.out)
        clear hc hr
        generalize (j.next : Int) = nx
        refine take_list (i := 11) (v := ?_) rfl (by kernel_rfl) (by kernel_rfl) (by kernel_rfl) (fun _ _ _ h => h) (Or.inl ⟨by rfl, ?_⟩) hH ?_
        rotate_left
        · ((intro w hSw; (try dsimp only at hSw); go_simp); try with_reducible rfl)
        simp only [Act.put, List.setIfInBounds_toArray, List.set_cons_zero, List.set_cons_succ]
        refine take_list (i := 12) (v := ?_) rfl (by kernel_rfl) (by kernel_rfl) (by kernel_rfl) (fun _ _ _ h => h) (Or.inl ⟨by rfl, ?_⟩) hH ?_
        rotate_left
        · ((intro w hSw; (try dsimp only at hSw); go_simp); try with_reducible rfl)
        simp only [Act.put, List.setIfInBounds_toArray, List.set_cons_zero, List.set_cons_succ]
        refine take_list (i := 13) (v := ?_) rfl (by kernel_rfl) (by kernel_rfl) (by kernel_rfl) (fun _ _ _ h => h) (Or.inl ⟨by rfl, ?_⟩) hH ?_
        rotate_left
        · ((intro w hSw; (try dsimp only at hSw); go_simp); try with_reducible rfl)
        simp only [Act.put, List.setIfInBounds_toArray, List.set_cons_zero, List.set_cons_succ]
        refine take_list (i := 14) (v := ?_) rfl (by kernel_rfl) (by kernel_rfl) (by kernel_rfl) (fun _ _ _ h => h) (Or.inl ⟨by rfl, ?_⟩) hH ?_
        rotate_left
        · ((intro w hSw; (try dsimp only at hSw); go_simp); try with_reducible rfl)
        simp only [Act.put, List.setIfInBounds_toArray, List.set_cons_zero, List.set_cons_succ]
        refine take_list (i := 15) (v := ?_) rfl (by kernel_rfl) (by kernel_rfl) (by kernel_rfl) (fun _ _ _ h => h) (Or.inl ⟨by rfl, ?_⟩) hH ?_
        rotate_left
        · ((intro w hSw; (try dsimp only at hSw); go_simp); try with_reducible rfl)
        simp only [Act.put, List.setIfInBounds_toArray, List.set_cons_zero, List.set_cons_succ]
        refine wpAnyH_done (by kernel_rfl) ?_ _
        clear hH
        generalize j.put (zs z) = j6 at S6 B6
        clear B4 J5
        obtain ⟨r3, hr3⟩ : ∃ r3 : Nat, r3 = k % 3 := ⟨_, rfl⟩
        have e6 : (k : Int).tmod 3 = (r3 : Int) := by rw [Int.tmod_eq_emod_of_nonneg (by omega)]; omega
        have r39 : r3 < 3 := by omega
        clear hr3
        have c2 : w6.cell? ⟨m, 2, none⟩ = some (.pointer (some ⟨p, 0, none⟩)) := S6.out.c2
        by_cases h2 : r3 = 2
        · subst h2
          have e7 : (k : Int).tmod 3 = 2 := e6
          clear e6
          go_wp2_with fail
          have hn6 : s.n < 4611686018427387904 := by have := N4.out; omega
          obtain ⟨fc, fb, fn⟩ := B6.out.flush S6.out.ok hn6
          have hfl := flush_mo S6.out (B6.out.big S6.out.ok)
          rw [fc, errV_z rfl] at hfl
          refine hfl.mono ?_
          rintro e w7 ⟨rfl, s7⟩
          have S7 := Lib.hid s7
          have B7 := Lib.hid fb
          have N7 := Lib.hid (show (j6.flushR d s).s.n ≤ (k + 1 : Nat) + 1 by have := N4.out; omega)
          clear s7 fb fn fc hfl S6 B6 c2 e7
          go_wp2_with fail
          go_roundw
          case rel => exact ⟨k + 1, _, _, _, by go_num, by omega, S7.out, B7.out, N7.out⟩
          case measure => simp [intOf]; omega
        · have h2' : ¬ (r3 : Int) = 2 := by omega
          have N7 := Lib.hid (show s.n ≤ (k + 1 : Nat) + 1 by have := N4.out; omega)
          go_wp2_with fail
          go_roundw
          case rel => exact ⟨k + 1, _, _, _, by go_num, by omega, S6.out, B6.out, N7.out⟩
          case measure => simp [intOf]; omega
      · have hc := acode_5 B4.out.good.dead (by rw [zs_length]; exact hz1) (by rw [zs_length]; exact hz2) hr
        rw [(added_n (by rw [hc]; decide)).1] at S6
        rw [hc, (added_n (by rw [hc]; decide)).2, errV_nz (by decide)]
        have N7 := Lib.hid (show s.n ≤ (k + 1 : Nat) + 1 by have := N4.out; omega)
        clear hc hr
        refine take_list (i := 11) (v := ?_) rfl (by kernel_rfl) (by kernel_rfl) (by kernel_rfl) (fun _ _ _ h => h) (Or.inl ⟨by rfl, ?_⟩) hH ?_
        rotate_left
        · ((intro w hSw; (try dsimp only at hSw); go_simp); try with_reducible rfl)
        simp only [Act.put, List.setIfInBounds_toArray, List.set_cons_zero, List.set_cons_succ]
        refine take_list (i := 12) (v := ?_) rfl (by kernel_rfl) (by kernel_rfl) (by kernel_rfl) (fun _ _ _ h => h) (Or.inl ⟨by rfl, ?_⟩) hH ?_
        rotate_left
        · ((intro w hSw; (try dsimp only at hSw); go_simp); try with_reducible rfl)
        simp only [Act.put, List.setIfInBounds_toArray, List.set_cons_zero, List.set_cons_succ]
        refine take_list (i := 13) (v := ?_) rfl (by kernel_rfl) (by kernel_rfl) (by kernel_rfl) (fun _ _ _ h => h) (Or.inl ⟨by rfl, ?_⟩) hH ?_
        rotate_left
        · ((intro w hSw; (try dsimp only at hSw); go_simp); try with_reducible rfl)
        simp only [Act.put, List.setIfInBounds_toArray, List.set_cons_zero, List.set_cons_succ]
        refine take_list (i := 14) (v := ?_) rfl (by kernel_rfl) (by kernel_rfl) (by kernel_rfl) (fun _ _ _ h => h) (Or.inl ⟨by rfl, ?_⟩) hH ?_
        rotate_left
        · ((intro w hSw; (try dsimp only at hSw); go_simp); try with_reducible rfl)
        simp only [Act.put, List.setIfInBounds_toArray, List.set_cons_zero, List.set_cons_succ]
        refine take_list (i := 15) (v := ?_) rfl (by kernel_rfl) (by kernel_rfl) (by kernel_rfl) (fun _ _ _ h => h) (Or.inl ⟨by rfl, ?_⟩) hH ?_
        rotate_left
        · ((intro w hSw; (try dsimp only at hSw); go_simp); try with_reducible rfl)
        simp only [Act.put, List.setIfInBounds_toArray, List.set_cons_zero, List.set_cons_succ]
        refine wpAnyH_done (by kernel_rfl) ?_ _
        clear hH
        go_wp2_with fail
        go_roundw
        case rel => exact ⟨k + 1, _, _, _, by go_num, by omega, S6.out, B4.out, N7.out⟩
        case measure => simp [intOf]; omega
    have hge : ¬ (k : Int) < (ls.length : Int) := by omega
    have N5 := Lib.hid (show s.n < 4611686018427387904 by have := N4.out; omega)
    clear N4 V4 V1 hk hlt
    have c0 : wr.cell? ⟨m, 0, none⟩ = some (.pointer (some ⟨a2.p, 0, none⟩)) := S4.out.c0
    go_wp2_with fail
    refine (arm_mo S4.out (tt : Int) (by omega)).mono ?_
    rintro e w5 ⟨rfl, s5⟩
    have S5 := Lib.hid s5
    have G5 := Lib.hid (B4.out.good.arm (tt : Int))
    clear s5 S4 c0
    have c2 : w5.cell? ⟨m, 2, none⟩ = some (.pointer (some ⟨p, 0, none⟩)) := S5.out.c2
    go_wp2_with fail
    have hb5 := B4.out.big S5.out.ok
    obtain ⟨s', recs, hh⟩ := after_flush S5.out.ok hb5 G5.out N5.out ks
    rw [B4.out.at_, B4.out.n, B4.out.first, B4.out.start] at hh
    refine (flush_mo S5.out hb5).mono ?_
    rintro e w6 ⟨rfl, s6⟩
    have Q6 := Lib.hid s6.jq
    have HH := Lib.hid hh
    clear s6 hh S5 G5 B4 N5 c2 hb5
    generalize (j.flushR { d with met := d.met.arm (tt : Int) } s).d = d6 at Q6 HH
    generalize (j.flushR { d with met := d.met.arm (tt : Int) } s).j = j6 at Q6
    generalize (j.flushR { d with met := d.met.arm (tt : Int) } s).s = s6 at Q6
    generalize errV (j.flushR { d with met := d.met.arm (tt : Int) } s).c = ev
    generalize j.note = note at HH
    have c0 : w6.cell? ⟨m, 0, none⟩ = some (.pointer (some ⟨a2.p, 0, none⟩)) := Q6.out.c0
    go_wp2_with fail
    refine (crash_mq Q6.out _ ks K1.out HKL.out).mono ?_
    rintro e w7 ⟨rfl, q7⟩
    have Q7 := Lib.hid q7
    have D7 := Lib.hid (show (d6.crash ks).met.down = false from rfl)
    clear q7 Q6 c0
    generalize d6.crash ks = d7 at Q7 D7 HH
    have c0 : w7.cell? ⟨m, 0, none⟩ = some (.pointer (some ⟨a2.p, 0, none⟩)) := Q7.out.c0
    go_wp2_with fail
    refine (open_mq Q7.out D7.out HH.out).mono ?_
    rintro e w8 ⟨p2, q2', rfl, q8, -⟩
    have Q8 := Lib.hid q8
    have BIG := Lib.hid (opened_jbig HH.out)
    clear q8 Q7 c0 D7
    obtain ⟨nx, hnx⟩ : ∃ nx : Nat, nx = 1 + recs.length := ⟨_, rfl⟩
    have HNX := Lib.hid hnx
    have hn9 : nx ≤ 14101 := by have := opened_big HH.out; omega
    have NXE := Lib.hid (show ((JL.opened 1 60 1 0 recs note).next : Int) = (nx : Int) from by rw [HNX.out]; rfl)
    obtain ⟨fr, hfr⟩ : ∃ fr : Int, (JL.opened 1 60 1 0 recs note).free = fr := ⟨_, rfl⟩
    have FRE := Lib.hid hfr
    clear hnx hfr
    go_wp2_with fail
    go_loopw [14] (fun i wr => ∃ (n : Nat) (d : Disk) (s0 s2 : SL), i = .int .i64 n ∧ n ≤ 3 ∧ JMq w1 wr m p2 q2' a2 d (JL.opened 1 60 1 0 recs note) s2 ∧ JHolds d s0 1 60 1 0 recs note) (fun i _ => 3 - (intOf i).toNat)
    case atStart => exact ⟨0, d7, _, _, rfl, by omega, Q8.out, HH.out⟩
    case round =>
      obtain ⟨n, d8, s0, s2, rfl, hn, q9, h9⟩ := hrel
      have Q9 := Lib.hid q9
      have H9 := Lib.hid h9
      clear q9 h9 Q8 HH
      by_cases hn3 : n < 3
      · have hn3' : (n : Int) < 3 := by omega
        have c0 : wr.cell? ⟨m, 0, none⟩ = some (.pointer (some ⟨a2.p, 0, none⟩)) := Q9.out.c0
        go_wp2_with fail
        refine (crash_mq Q9.out _ [] (ints_nil _) (by decide)).mono ?_
        rintro e w10 ⟨rfl, q10⟩
        have Q10 := Lib.hid q10
        have H10 := Lib.hid (H9.out.crash [])
        have D10 := Lib.hid (show (d8.crash []).met.down = false from rfl)
        clear q10 Q9 H9 c0
        generalize d8.crash [] = d10 at Q10 H10 D10
        have c0 : w10.cell? ⟨m, 0, none⟩ = some (.pointer (some ⟨a2.p, 0, none⟩)) := Q10.out.c0
        go_wp2_with fail
        refine (open_mq Q10.out D10.out H10.out).mono ?_
        rintro e w11 ⟨p3, q3, rfl, r11, o11⟩
        have Q11 := Lib.hid (Q10.out.quiet o11)
        have R11 := Lib.hid r11
        clear o11 r11 Q10 c0 D10
        go_wp2_with fail
        refine (next_mq R11.out BIG.out _ NXE.out).mono ?_
        rintro e w12 ⟨rfl, o12⟩
        have Q12 := Lib.hid (Q11.out.quiet o12)
        have R12 := Lib.hid (R11.out.quiet o12)
        clear o12 Q11 R11
        go_wp2_with fail
        refine (next_mq Q12.out BIG.out _ NXE.out).mono ?_
        rintro e w13 ⟨rfl, o13⟩
        have Q13 := Lib.hid (Q12.out.quiet o13)
        have R13 := Lib.hid (R12.out.quiet o13)
        clear o13 Q12 R12
        go_wp2_with fail
        refine (first_mq R13.out 1 rfl).mono ?_
        rintro e w14 ⟨rfl, rfl⟩
        go_wp2_with fail
        refine (first_mq Q13.out 1 rfl).mono ?_
        rintro e w14 ⟨rfl, rfl⟩
        go_wp2_with fail
        refine (free_mq R13.out _ FRE.out).mono ?_
        rintro e w15 ⟨rfl, o15⟩
        have Q15 := Lib.hid (Q13.out.quiet o15)
        have R15 := Lib.hid (R13.out.quiet o15)
        clear o15 Q13 R13
        go_wp2_with fail
        refine (free_mq Q15.out _ FRE.out).mono ?_
        rintro e w16 ⟨rfl, o16⟩
        have Q16 := Lib.hid (Q15.out.quiet o16)
        have R16 := Lib.hid (R15.out.quiet o16)
        clear o16 Q15 R15
        go_wp2_with fail
        refine (first_mq Q16.out 1 rfl).mono ?_
        rintro e w17 ⟨rfl, rfl⟩
        go_wp2_with fail
        go_loopw [17] (fun x wr => ∃ y : Nat, x = .int .i64 y ∧ 1 ≤ y ∧ y ≤ nx ∧ JMq w1 wr m p2 q2' a2 d10 (JL.opened 1 60 1 0 recs note) s2 ∧ ∃ s3, JMq w1 wr m p3 q3 a2 d10 (JL.opened 1 60 1 0 recs note) s3) (fun x _ => nx - (intOf x).toNat)
        case atStart => exact ⟨1, rfl, by omega, by rw [HNX.out]; omega, Q16.out, _, R16.out⟩
        case round =>
          obtain ⟨y, rfl, hy1, hy2, q17, s3, r17⟩ := hrel
          have Q17 := Lib.hid q17
          have R17 := Lib.hid r17
          clear q17 r17 Q16 R16
          go_wp2_with fail
          refine (next_mq Q17.out BIG.out _ NXE.out).mono ?_
          rintro e w18 ⟨rfl, o18⟩
          have Q18 := Lib.hid (Q17.out.quiet o18)
          have R18 := Lib.hid (R17.out.quiet o18)
          clear o18 Q17 R17
          by_cases hyn : y < nx
          · have hyn' : (y : Int) < (nx : Int) := by omega
            obtain ⟨i, hi⟩ : ∃ i : Nat, y = i + 1 := ⟨y - 1, by omega⟩
            have hil : i < recs.length := by have := HNX.out; omega
            obtain ⟨r, hr⟩ : ∃ r, recs[i]? = some r := ⟨_, List.getElem?_eq_getElem hil⟩
            have HX := Lib.hid (show (y : Int) = ((JL.opened 1 60 1 0 recs note).first : Int) + (i : Int) from by show (y : Int) = ((1 : Nat) : Int) + _; omega)
            have HR := Lib.hid (show (JL.opened 1 60 1 0 recs note).recs[i]? = some r from hr)
            clear hi hil hr
            go_wp2_with fail
            refine (get_mq Q18.out BIG.out i r HR.out _ HX.out).mono ?_
            rintro e w19 ⟨b19, c19, rfl, h19, o19⟩
            have Q19 := Lib.hid (Q18.out.quiet o19)
            have R19 := Lib.hid (R18.out.quiet o19)
            have H19 := Lib.hid h19
            clear h19 o19 Q18 R18
            go_wp2_with fail
            refine (get_mq R19.out BIG.out i r HR.out _ HX.out).mono ?_
            rintro e w20 ⟨b20, c20, rfl, h20, o20⟩
            have Q20 := Lib.hid (Q19.out.quiet o20)
            have R20 := Lib.hid (R19.out.quiet o20)
            obtain ⟨S, hS⟩ : ∃ S, S = strOf r := ⟨_, rfl⟩
            have s1 := str_bytes (H19.out.quiet o20).bytes hS
            have s2 := str_bytes h20.bytes hS
            clear h20 o20 Q19 R19 H19 hS HR HX
            go_wp2_with fail
            go_roundw
            case rel => exact ⟨y + 1, by go_num, by omega, by omega, Q20.out, _, R20.out⟩
            case measure => simp [intOf]; omega
          · have hyn' : ¬ (y : Int) < (nx : Int) := by omega
            go_wp2_with fail
            go_roundw
            case rel => exact ⟨n + 1, _, _, _, by go_num, by omega, Q18.out, H10.out⟩
            case measure => simp [intOf]; omega
      · have hn3' : ¬ (n : Int) < 3 := by omega
        go_wp2_with fail
        go_ret
        exact ⟨rfl, O1.out.trans Q9.out.only (by simp)⟩

set_option maxRecDepth 100000 in
theorem jtwice_lifted (os : Os) (started : os.Started) (H : Type) (enc : TypeId × Value → H) :
    ReturnsInHanded {} Try.checked os 6 .any (Rows.journalTwiceSpec.pre6 enc Try.prog Try.f6 Rows.journalTwiceRow.domain false) (Rows.journalTwiceSpec.post enc Try.prog Try.f6 false true false false) := by
  refine returnsInHanded_of_change (C := Try.checked) law_own started (by kernel_rfl) Try.func6
    (ChangeSpec.witness6 (enc := enc) (C := Try.checked) false ⟨#[], #[.slice none 0 0, .slice none 0 0, .int .i64 0], []⟩ 8 (by kernel_rfl) (by kernel_rfl) (by kernel_rfl) (by kernel_rfl)) ?_
  intro W base args ds gs before hval0 hW hcnd _
  have hval : ∀ (j : Nat) t v, Try.f6.params[j]? = some t → args[j]? = some v → Value.okWide Try.prog W .any base t v := hval0
  have hW' := hW
  obtain ⟨p, q, hA0, hV, rfl, hfz, hnd⟩ := hW
  have hA : DataW.TrodAll enc Try.prog W 0 (fun _ => true) true Try.f6.params.toList args.toList ds p := hA0
  rw [Try.params6] at hA hval
  obtain ⟨v0, vs0, d0, ds0, p0, q0, hargs, rfl, rfl, h0, r0⟩ := trodAll_cons hA
  obtain ⟨v1, vs1, d1, ds1, p1, q1, rfl, rfl, rfl, h1, r1⟩ := trodAll_cons r0
  obtain ⟨v2, vs2, d2, ds2, p2, q2, rfl, rfl, rfl, h2, r2⟩ := trodAll_cons r1
  obtain ⟨rfl, rfl, rfl⟩ := trodAll_nil r2
  obtain rfl : args = #[v0, v1, v2] := by cases args; simp_all
  obtain ⟨rfl, rfl⟩ := trodVars_none hV
  have h0' := h0
  obtain ⟨sa0, sl0, sc0, rfl⟩ := okWide_slice Try.underlying32 (hval 0 32 v0 rfl rfl)
  obtain ⟨fuel0, hf0⟩ := h0
  obtain ⟨l0, hs0, _, hl0⟩ := open_nums (v := .slice sa0 sl0 sc0) hf0
  have hlt0 : ∀ x ∈ p0, x.block < W.heap.size := fun x hx => hW'.lt x (by simp [hx])
  have h1' := h1
  obtain ⟨sa1, sl1, sc1, rfl⟩ := okWide_slice Try.underlying32 (hval 1 32 v1 rfl rfl)
  obtain ⟨fuel1, hf1⟩ := h1
  obtain ⟨l1, hs1, _, hl1⟩ := open_nums (v := .slice sa1 sl1 sc1) hf1
  have hlt1 : ∀ x ∈ p1, x.block < W.heap.size := fun x hx => hW'.lt x (by simp [hx])
  obtain ⟨a2, rfl, rfl, rfl, w2⟩ := open_int Try.underlying3 (hval 2 3 v2 rfl rfl) h2
  clear hA0 hval0
  refine (jtwice_walk _ _ a2 l0 l1 W hs0 hl0 hs1 hl1 w2).mono fun e W' ⟨he, hg⟩ => ?_
  subst he
  exact ⟨_, rfl, post_quiet (pa := (p0 ++ (p1 ++ ([] ++ [])))) (pv := []) hW' hg (fun _ _ _ => (trodAll_cons_mk (shut_bool Try.underlying4 _) trodAll_mk0)) (fun sp hsp => (trodAll_cons_mk (arg_stays (by kernel_rfl) (of_decide_eq_true (by kernel_rfl)) h0' hg hlt0 (fun x hx => hsp x (by simp [hx]))) (trodAll_cons_mk (arg_stays (by kernel_rfl) (of_decide_eq_true (by kernel_rfl)) h1' hg hlt1 (fun x hx => hsp x (by simp [hx]))) (trodAll_cons_mk (shut_int Try.underlying3 w2) trodAll_mk0)))) (fun _ _ => rfl) (by simp) (ok_one (by kernel_rfl) rfl (okWide_bool_mk Try.underlying4 _))⟩

theorem jtwice_over : Rows.journalTwiceRow.holds Try.pinned (OpenSpec.ofChange Rows.journalTwiceSpec) :=
  OpenClaim.holds_of_wide 6 Try.f6 rfl rfl rfl rfl rfl rfl rfl ⟨rfl, rfl, rfl, rfl, rfl⟩ rfl rfl rfl rfl rfl (by kernel_rfl) Try.func6 (by kernel_rfl)
    (of_decide_eq_true (by kernel_rfl)) (by unfold Func.isWrapper; first | (rw [if_pos (by decide +kernel)]; kernel_rfl) | (rw [if_neg (by decide +kernel)]; exact ⟨rfl, rfl⟩))
    (fun os started H enc _ => jtwice_lifted os started H enc)

/-- The statement. -/
theorem jtwice_holds : Rows.JournalTwiceSaid :=
  jtwice_over
#print axioms jtwice_holds
end Go.Proofs.Ytmjnbpcjpjefeaa
