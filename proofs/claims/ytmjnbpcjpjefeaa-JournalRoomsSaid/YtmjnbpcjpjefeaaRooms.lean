/- JournalRooms: whatever the size and the length, a ring takes just as many records as its room holds, and a trim gives it back. No condition. -/
import Derived.Test.YtmjnbpcjpjefeaaJg
namespace Go.Proofs.Ytmjnbpcjpjefeaa
open Go.ChangeShapes Go.WideShapes Go.ChangeAt Go.RowKit Go.Maps
set_option linter.unusedVariables false
set_option linter.unusedSimpArgs false

/-- A journal with c records of z bytes. -/
def filled (n z c : Nat) : JL := { JL.new 1 n with recs := List.replicate c (zs z) }
section
variable {n z c : Nat}
theorem filled_0 : filled n z 0 = JL.new 1 n := rfl
theorem filled_put : (filled n z c).put (zs z) = filled n z (c + 1) := by
  show ({ JL.new 1 n with recs := List.replicate c (zs z) ++ [zs z] } : JL) = { JL.new 1 n with recs := List.replicate (c + 1) (zs z) }
  rw [List.replicate_succ']
theorem filled_fin : (filled n z c).fin = c * (z + 2) := by
  induction c with
  | zero => rw [filled_0, new_fin]; omega
  | succ c ih =>
    rw [← filled_put, put_fin, ih, zs_length, Nat.succ_mul]
theorem filled_next : (filled n z c).next = 1 + c := by
  show 1 + (List.replicate c (zs z)).length = _
  rw [List.length_replicate]
theorem filled_free : (filled n z c).free = (n : Int) * 470 - ((c * (z + 2) : Nat) : Int) := by
  induction c with
  | zero => rw [filled_0, new_free]; omega
  | succ c ih =>
    rw [← filled_put, put_free, ih, zs_length, Nat.succ_mul]
    push_cast
    omega
theorem filled_dead : (filled n z c).dead = false := rfl
theorem filled_booked : (filled n z c).booked = 0 := rfl
end

theorem nil_e5 (w : World) : (binOp .eql 27 .nilIface (err 5)).run Try.prog w = .ok (.bool false) w := by kernel_rfl
theorem err_55 (w : World) : (binOp .eql 27 (err 5) (err 5)).run Try.prog w = .ok (.bool true) w := by kernel_rfl
set_option maxRecDepth 100000 in
set_option maxHeartbeats 1000000 in
theorem jrooms_walk (a b : Int) (w : World) (ha : (Lit.int .i64 a).wf = true) (hb : (Lit.int .i64 b).wf = true) :
    Calls Try.prog 3 #[.int .i64 a, .int .i64 b] w fun e w' => e = .returned (.bool true) ∧ Only [] w w' := by
  obtain ⟨j1, hj1, e1⟩ := modU a 30 (by decide) (by decide)
  obtain ⟨j2, hj2, e2⟩ := modU b 4096 (by decide) (by decide)
  obtain ⟨n, hn⟩ : ∃ n : Nat, n = j1 + 2 := ⟨_, rfl⟩
  obtain ⟨z, hz⟩ : ∃ z : Nat, z = j2 + 1 := ⟨_, rfl⟩
  have e3 : (2 : Int) + (j1 : Int) = (n : Int) := by omega
  have e4 : (1 : Int) + (j2 : Int) = (z : Int) := by omega
  have E3 := Lib.hid e3
  have E4 := Lib.hid e4
  clear e3 e4
  have q0 := iface_nil
  have q1 := iface_ne
  have q2 := iface_nerr
  go_enter Try.func3, Try.ntmps3
  go_wp2_with fail
  refine (alive4_any _).mono ?_
  rintro e w1 ⟨rfl, o1⟩
  have O1 := Lib.hid o1
  clear o1
  go_wp2_with fail
  rw [E3.out, E4.out]
  refine (begun_any n w1 (by omega) (by omega)).mono ?_
  rintro e w2 ⟨m, p, q, a2, d, rfl, s2, m2, g2, -⟩
  have S2 := Lib.hid s2
  have M2 := Lib.hid m2
  have G2 := Lib.hid g2
  have O2 := Lib.hid s2.only
  clear s2 m2 g2 e1 e2 E3 E4 ha hb
  have hn2 : 2 ≤ n := by omega
  have hn31 : n ≤ 31 := by omega
  have hz1 : 1 ≤ z := by omega
  have hz2 : z ≤ 4096 := by omega
  clear hn hz hj1 hj2
  rw [← filled_0 (n := n) (z := z)] at S2 G2
  go_wp2_with fail
  go_loopw [6] (fun c wr => ∃ k : Nat, c = .int .i64 k ∧ k * (z + 2) ≤ n * 470 ∧ JMo w1 wr m p q a2 d (filled n z k) ⟨1, 1, row0, false⟩ ∧ JGood d ⟨1, 1, row0, false⟩ (filled n z k)) (fun c _ => 9000 - (intOf c).toNat)
  case atStart => exact ⟨0, rfl, by omega, S2.out, G2.out⟩
  case round =>
    obtain ⟨k, rfl, hk, s3, g3⟩ := hrel
    have k9 : k ≤ 4856 := by
      have h1 : k * 3 ≤ k * (z + 2) := Nat.mul_le_mul_left k (by omega)
      omega
    have k9' : (k : Int) < 9000 := by omega
    have k0 : (0 : Int) ≤ (k : Int) := by omega
    have hB : JBig (filled n z k) := ⟨by rw [filled_fin]; omega, by rw [filled_next]; omega⟩
    have HB := Lib.hid hB
    have S3 := Lib.hid s3
    have G3 := Lib.hid g3
    have HKN := Lib.hid hk
    clear s3 g3 hB hk S2 G2
    go_wp2_with fail
    have o4 : Only [] wr wr.drew := (Only.refl [] wr).drew
    have S4 := Lib.hid (S3.out.quiet o4)
    have c2 : wr.drew.cell? ⟨m, 2, none⟩ = some (.pointer (some ⟨p, 0, none⟩)) := S4.out.c2
    clear o4 S3
    refine wp_region_held_drew (S := fun w' => w'.cell? ⟨m, 2, none⟩ = some (.pointer (some ⟨p, 0, none⟩))) (by kernel_rfl) c2 (fun hH => ?_)
    refine take_list (i := 0) (v := ?_) rfl (by kernel_rfl) (by kernel_rfl) (by kernel_rfl) (fun _ _ _ h => h) (Or.inl ⟨by rfl, ?_⟩) hH ?_
    rotate_left
    · ((intro w hSw; (try dsimp only at hSw); go_simp); try with_reducible rfl)
    simp only [Act.put, List.setIfInBounds_toArray, List.set_cons_zero, List.set_cons_succ]
    refine take_list (i := 1) (v := ?_) rfl (by kernel_rfl) (by kernel_rfl) (by kernel_rfl) (fun _ _ _ h => h) (Or.inl ⟨by rfl, ?_⟩) hH ?_
    rotate_left
    · ((intro w hSw; (try dsimp only at hSw); go_simp); try with_reducible rfl)
    simp only [Act.put, List.setIfInBounds_toArray, List.set_cons_zero, List.set_cons_succ]
    refine take_list (i := 2) (v := ?_) rfl (by kernel_rfl) (by kernel_rfl) (by kernel_rfl) (fun _ _ _ h => h) (Or.inl ⟨by rfl, ?_⟩) hH ?_
    rotate_left
    · ((intro w hSw; (try dsimp only at hSw); go_simp); try with_reducible rfl)
    simp only [Act.put, List.setIfInBounds_toArray, List.set_cons_zero, List.set_cons_succ]
    refine take_list (i := 3) (v := ?_) rfl (by kernel_rfl) (by kernel_rfl) (by kernel_rfl) (fun _ _ _ h => h) (Or.inl ⟨by rfl, ?_⟩) hH ?_
    rotate_left
    · ((intro w hSw; (try dsimp only at hSw); go_simp); try with_reducible rfl)
    simp only [Act.put, List.setIfInBounds_toArray, List.set_cons_zero, List.set_cons_succ]
    refine take_list (i := 4) (v := ?_) rfl (by kernel_rfl) (by kernel_rfl) (by kernel_rfl) (fun _ _ _ h => h) (Or.inl ⟨by rfl, ?_⟩) hH ?_
    rotate_left
    · ((intro w hSw; (try dsimp only at hSw); go_simp); try with_reducible rfl)
    simp only [Act.put, List.setIfInBounds_toArray, List.set_cons_zero, List.set_cons_succ]
    refine wpAnyH_ready (rs := [5]) (by kernel_rfl) (by simp) ?_
    refine ready_list rfl (fun K hK => ?_)
    refine step_make_zero (by rfl) (.tmp 35) (.tmp 35) (by rfl) z (by rfl) (by rfl) (by omega) (fun w5 g5 b5 hg5 o5 => ?_)
    have c2 : w5.cell? ⟨m, 2, none⟩ = some (.pointer (some ⟨p, 0, none⟩)) := (S4.out.quiet o5).c2
    refine hK.out _ _ c2 (fun hH => ?_)
    clear hK K c2
    refine wpAnyH_ready (rs := [6]) (by kernel_rfl) (by simp) ?_
    refine ready_list rfl (fun K hK => ?_)
    go_simp
    refine (append_mo S4.out o5 HB.out _ (zs z) (zeros_at b5) (fresh_at hg5) (by rw [zs_length]; omega)).mono ?_
    rintro e w6 ⟨rfl, s6⟩
    have S6 := Lib.hid s6
    have c2 : w6.cell? ⟨m, 2, none⟩ = some (.pointer (some ⟨p, 0, none⟩)) := s6.c2
    refine hK.out _ _ c2 (fun hH => ?_)
    clear hK K c2 s6 b5 hg5 o5 S4
    have hfr := @filled_free n z k
    by_cases hr : (2 : Int) + ((zs z).length : Int) ≤ (filled n z k).free - (filled n z k).booked
    · have hc := acode_0 (j := filled n z k) filled_dead (by rw [zs_length]; exact hz1) (by rw [zs_length]; exact hz2) hr
      rw [(added_0 hc).1, filled_put] at S6
      rw [hc, (added_0 hc).2, errV_z rfl]
      have G6 := Lib.hid (show JGood d ⟨1, 1, row0, false⟩ (filled n z (k + 1)) from by rw [← filled_put]; exact G3.out.put (Nat.zero_le _))
      have hb6 : (k + 1) * (z + 2) ≤ n * 470 := by
        rw [zs_length, filled_booked, hfr] at hr
        rw [Nat.succ_mul]
        omega
      have HB6 := Lib.hid hb6
      have hnx : ((filled n z k).next : Int) = (k : Int) + 1 := by rw [filled_next]; omega
      rw [hnx]
      have q5 := nil_e5
      clear hc hr hb6 hfr hnx
      refine take_list (i := 7) (v := ?_) rfl (by kernel_rfl) (by kernel_rfl) (by kernel_rfl) (fun _ _ _ h => h) (Or.inl ⟨by rfl, ?_⟩) hH ?_
      rotate_left
      · ((intro w hSw; (try dsimp only at hSw); go_simp); try with_reducible rfl)
      simp only [Act.put, List.setIfInBounds_toArray, List.set_cons_zero, List.set_cons_succ]
      refine take_list (i := 8) (v := ?_) rfl (by kernel_rfl) (by kernel_rfl) (by kernel_rfl) (fun _ _ _ h => h) (Or.inl ⟨by rfl, ?_⟩) hH ?_
      rotate_left
      · ((intro w hSw; (try dsimp only at hSw); go_simp); try with_reducible rfl)
      simp only [Act.put, List.setIfInBounds_toArray, List.set_cons_zero, List.set_cons_succ]
      refine take_list (i := 9) (v := ?_) rfl (by kernel_rfl) (by kernel_rfl) (by kernel_rfl) (fun _ _ _ h => h) (Or.inl ⟨by rfl, ?_⟩) hH ?_
      rotate_left
      · ((intro w hSw; (try dsimp only at hSw); go_simp); try with_reducible rfl)
      simp only [Act.put, List.setIfInBounds_toArray, List.set_cons_zero, List.set_cons_succ]
      refine take_list (i := 10) (v := ?_) rfl (by kernel_rfl) (by kernel_rfl) (by kernel_rfl) (fun _ _ _ h => h) (Or.inl ⟨by rfl, ?_⟩) hH ?_
      rotate_left
      · ((intro w hSw; (try dsimp only at hSw); go_simp); try with_reducible rfl)
      simp only [Act.put, List.setIfInBounds_toArray, List.set_cons_zero, List.set_cons_succ]
      refine take_list (i := 11) (v := ?_) rfl (by kernel_rfl) (by kernel_rfl) (by kernel_rfl) (fun _ _ _ h => h) (Or.inl ⟨by rfl, ?_⟩) hH ?_
      rotate_left
      · ((intro w hSw; (try dsimp only at hSw); go_simp); try with_reducible rfl)
      simp only [Act.put, List.setIfInBounds_toArray, List.set_cons_zero, List.set_cons_succ]
      refine wpAnyH_done (by kernel_rfl) ?_ _
      clear hH
      go_wp2_with fail
      go_roundw
      case rel => exact ⟨k + 1, by go_num, HB6.out, S6.out, G6.out⟩
      case measure => simp [intOf]; omega
    · have hc := acode_5 (j := filled n z k) filled_dead (by rw [zs_length]; exact hz1) (by rw [zs_length]; exact hz2) hr
      rw [(added_n (by rw [hc]; decide)).1] at S6
      rw [hc, (added_n (by rw [hc]; decide)).2, errV_nz (by decide)]
      obtain ⟨T, hT⟩ : ∃ T : Nat, T = k * (z + 2) := ⟨_, rfl⟩
      have hT1 : T ≤ n * 470 := by rw [hT]; exact HKN.out
      have hT2 : n * 470 < T + (z + 2) := by
        rw [zs_length, filled_booked, hfr, ← hT] at hr
        omega
      have eT : (k : Int) * ((z : Int) + 2) = (T : Int) := by rw [hT]; push_cast; rfl
      have hdiv : Int.tdiv ((n : Int) * 470) ((z : Int) + 2) = (k : Int) := by
        have h1 : (n * 470) / (z + 2) = k := by
          apply Nat.div_eq_of_lt_le
          · rw [← hT]; exact hT1
          · rw [Nat.succ_mul, ← hT]; omega
        rw [Int.tdiv_eq_ediv_of_nonneg (by omega)]
        have h2 : ((n * 470 / (z + 2) : Nat) : Int) = (k : Int) := by rw [h1]
        push_cast at h2
        exact h2
      have hz0 : ¬ (z : Int) + 2 = 0 := by omega
      have hfr2 : (filled n z k).free = (n : Int) * 470 - (T : Int) := by rw [hfr, ← hT]
      have q5 := err_55
      clear hc hr hfr
      refine take_list (i := 7) (v := ?_) rfl (by kernel_rfl) (by kernel_rfl) (by kernel_rfl) (fun _ _ _ h => h) (Or.inl ⟨by rfl, ?_⟩) hH ?_
      rotate_left
      · ((intro w hSw; (try dsimp only at hSw); go_simp); try with_reducible rfl)
      simp only [Act.put, List.setIfInBounds_toArray, List.set_cons_zero, List.set_cons_succ]
      refine take_list (i := 8) (v := ?_) rfl (by kernel_rfl) (by kernel_rfl) (by kernel_rfl) (fun _ _ _ h => h) (Or.inl ⟨by rfl, ?_⟩) hH ?_
      rotate_left
      · ((intro w hSw; (try dsimp only at hSw); go_simp); try with_reducible rfl)
      simp only [Act.put, List.setIfInBounds_toArray, List.set_cons_zero, List.set_cons_succ]
      refine take_list (i := 9) (v := ?_) rfl (by kernel_rfl) (by kernel_rfl) (by kernel_rfl) (fun _ _ _ h => h) (Or.inl ⟨by rfl, ?_⟩) hH ?_
      rotate_left
      · ((intro w hSw; (try dsimp only at hSw); go_simp); try with_reducible rfl)
      simp only [Act.put, List.setIfInBounds_toArray, List.set_cons_zero, List.set_cons_succ]
      refine take_list (i := 10) (v := ?_) rfl (by kernel_rfl) (by kernel_rfl) (by kernel_rfl) (fun _ _ _ h => h) (Or.inl ⟨by rfl, ?_⟩) hH ?_
      rotate_left
      · ((intro w hSw; (try dsimp only at hSw); go_simp); try with_reducible rfl)
      simp only [Act.put, List.setIfInBounds_toArray, List.set_cons_zero, List.set_cons_succ]
      refine take_list (i := 11) (v := ?_) rfl (by kernel_rfl) (by kernel_rfl) (by kernel_rfl) (fun _ _ _ h => h) (Or.inl ⟨by rfl, ?_⟩) hH ?_
      rotate_left
      · ((intro w hSw; (try dsimp only at hSw); go_simp); try with_reducible rfl)
      simp only [Act.put, List.setIfInBounds_toArray, List.set_cons_zero, List.set_cons_succ]
      refine wpAnyH_done (by kernel_rfl) ?_ _
      clear hH
      have c2 : w6.cell? ⟨m, 2, none⟩ = some (.pointer (some ⟨p, 0, none⟩)) := S6.out.c2
      go_wp2_with fail
      refine (free_mo S6.out _ hfr2).mono ?_
      rintro e w7 ⟨rfl, s7, -⟩
      have S7 := Lib.hid s7
      have HT := Lib.hid hT
      clear s7 S6 hT c2
      have c2 : w7.cell? ⟨m, 2, none⟩ = some (.pointer (some ⟨p, 0, none⟩)) := S7.out.c2
      go_wp2_with fail
      have o8 : Only [] w7 w7.drew := (Only.refl [] w7).drew
      have S8 := Lib.hid (S7.out.quiet o8)
      have c2 : w7.drew.cell? ⟨m, 2, none⟩ = some (.pointer (some ⟨p, 0, none⟩)) := S8.out.c2
      obtain ⟨y, hy⟩ : ∃ y : Nat, y = 1 + k := ⟨_, rfl⟩
      have HY := Lib.hid hy
      clear o8 S7 hy
      refine wp_region_held_drew (S := fun w' => w'.cell? ⟨m, 2, none⟩ = some (.pointer (some ⟨p, 0, none⟩))) (by kernel_rfl) c2 (fun hH => ?_)
      refine take_list (i := 0) (v := ?_) rfl (by kernel_rfl) (by kernel_rfl) (by kernel_rfl) (fun _ _ _ h => h) (Or.inl ⟨by rfl, ?_⟩) hH ?_
      rotate_left
      · ((intro w hSw; (try dsimp only at hSw); go_simp); try with_reducible rfl)
      simp only [Act.put, List.setIfInBounds_toArray, List.set_cons_zero, List.set_cons_succ]
      refine take_list (i := 1) (v := ?_) rfl (by kernel_rfl) (by kernel_rfl) (by kernel_rfl) (fun _ _ _ h => h) (Or.inl ⟨by rfl, ?_⟩) hH ?_
      rotate_left
      · ((intro w hSw; (try dsimp only at hSw); go_simp); try with_reducible rfl)
      simp only [Act.put, List.setIfInBounds_toArray, List.set_cons_zero, List.set_cons_succ]
      refine take_list (i := 2) (v := ?_) rfl (by kernel_rfl) (by kernel_rfl) (by kernel_rfl) (fun _ _ _ h => h) (Or.inl ⟨by rfl, ?_⟩) hH ?_
      rotate_left
      · ((intro w hSw; (try dsimp only at hSw); go_simp); try with_reducible rfl)
      simp only [Act.put, List.setIfInBounds_toArray, List.set_cons_zero, List.set_cons_succ]
      refine take_list (i := 3) (v := ?_) rfl (by kernel_rfl) (by kernel_rfl) (by kernel_rfl) (fun _ _ _ h => h) (Or.inl ⟨by rfl, ?_⟩) hH ?_
      rotate_left
      · ((intro w hSw; (try dsimp only at hSw); go_simp); try with_reducible rfl)
      simp only [Act.put, List.setIfInBounds_toArray, List.set_cons_zero, List.set_cons_succ]
      refine take_list (i := 4) (v := ?_) rfl (by kernel_rfl) (by kernel_rfl) (by kernel_rfl) (fun _ _ _ h => h) (Or.inl ⟨by rfl, ?_⟩) hH ?_
      rotate_left
      · ((intro w hSw; (try dsimp only at hSw); go_simp); try with_reducible rfl)
      simp only [Act.put, List.setIfInBounds_toArray, List.set_cons_zero, List.set_cons_succ]
      refine take_list (i := 5) (v := ?_) rfl (by kernel_rfl) (by kernel_rfl) (by kernel_rfl) (fun _ _ _ h => h) (Or.inl ⟨by rfl, ?_⟩) hH ?_
      rotate_left
      · ((intro w hSw; (try dsimp only at hSw); go_simp); try with_reducible rfl)
      simp only [Act.put, List.setIfInBounds_toArray, List.set_cons_zero, List.set_cons_succ]
      refine take_list (i := 6) (v := ?_) rfl (by kernel_rfl) (by kernel_rfl) (by kernel_rfl) (fun _ _ _ h => h) (Or.inl ⟨by rfl, ?_⟩) hH ?_
      rotate_left
      · ((intro w hSw; (try dsimp only at hSw); go_simp); try with_reducible rfl)
      simp only [Act.put, List.setIfInBounds_toArray, List.set_cons_zero, List.set_cons_succ]
      refine take_list (i := 7) (v := ?_) rfl (by kernel_rfl) (by kernel_rfl) (by kernel_rfl) (fun _ _ _ h => h) (Or.inl ⟨by rfl, ?_⟩) hH ?_
      rotate_left
      · ((intro w hSw; (try dsimp only at hSw); go_simp); try with_reducible rfl)
      simp only [Act.put, List.setIfInBounds_toArray, List.set_cons_zero, List.set_cons_succ]
      refine wpAnyH_ready (rs := [8]) (by kernel_rfl) (by simp) ?_
      refine ready_list rfl (fun K hK => ?_)
      go_simp
      refine (next_mo S8.out HB.out (y : Int) (by rw [filled_next, HY.out])).mono ?_
      rintro e w9 ⟨rfl, s9, -⟩
      have S9 := Lib.hid s9
      have c2 : w9.cell? ⟨m, 2, none⟩ = some (.pointer (some ⟨p, 0, none⟩)) := s9.c2
      refine hK.out _ _ c2 (fun hH => ?_)
      clear hK K c2 s9 S8
      refine wpAnyH_ready (rs := [9]) (by kernel_rfl) (by simp) ?_
      refine ready_list rfl (fun K hK => ?_)
      go_simp
      have hlen : (filled n z k).recs.length = k := List.length_replicate
      have hx : (y : Int) = ((filled n z k).first : Int) + ((k : Nat) : Int) := by
        show (y : Int) = ((1 : Nat) : Int) + _
        rw [HY.out]
        omega
      have hok := S9.out.ok
      have htr := trim_mo S9.out HB.out (y : Int)
      obtain ⟨tc, -⟩ := trim_calm (note := []) hok HB.out G3.out (by decide) k (by rw [hlen]; exact Nat.le_refl _) y hx (by decide) M2.out
      rcases trim_good (note := []) hok HB.out G3.out (by decide) k (by rw [hlen]; exact Nat.le_refl _) y hx (by decide) with ⟨_, tj, _, _⟩ | ⟨c3, _⟩
      rotate_left
      · rw [tc] at c3
        cases c3
      rw [tc, tj, errV_z rfl] at htr
      refine htr.mono ?_
      rintro e w10 ⟨rfl, s10⟩
      have S10 := Lib.hid s10
      have c2 : w10.cell? ⟨m, 2, none⟩ = some (.pointer (some ⟨p, 0, none⟩)) := s10.c2
      refine hK.out _ _ c2 (fun hH => ?_)
      clear hK K c2
      obtain ⟨L, hL⟩ : ∃ L : Nat, L = T % 470 := ⟨_, rfl⟩
      have hfr3 : (((filled n z k).all.drop k).noted []).free = (n : Int) * 470 - (L : Int) := by
        have h1 := s10.ok.stream
        have h2 : (((filled n z k).all.drop k).noted []).recs = [] := by
          show (filled n z k).recs.drop k = []
          rw [List.drop_eq_nil_iff, hlen]
          exact Nat.le_refl _
        have h3 : (((filled n z k).all.drop k).noted []).start = T := by
          show (filled n z k).start + pos (filled n z k).recs k = T
          rw [pos_all (by rw [hlen]; exact Nat.le_refl _), HT.out, ← filled_fin (n := n)]
          rfl
        rw [h2, h3] at h1
        unfold JL.free
        rw [h1, hL]
        show (n : Int) * 470 - ((T % 470 + (flat []).length : Nat) : Int) = _
        rw [flat_nil]
        rfl
      have hfi : ((((filled n z k).all.drop k).noted []).first : Int) = (y : Int) := by
        show ((1 + k : Nat) : Int) = _
        rw [HY.out]
      generalize ((filled n z k).all.drop k).noted [] = j3 at S10 hfr3 hfi
      have eL : (T : Int) % 470 = (L : Int) := by omega
      have eL2 : Int.tmod (T : Int) 470 = (L : Int) := by rw [Int.tmod_eq_emod_of_nonneg (by omega)]; omega
      have hL470 : L < 470 := by omega
      have eY : (k : Int) + 1 = (y : Int) := by rw [HY.out]; omega
      clear htr tc tj s10 S9 hok hx hlen hL eL
      refine take_list (i := 10) (v := ?_) rfl (by kernel_rfl) (by kernel_rfl) (by kernel_rfl) (fun _ _ _ h => h) (Or.inl ⟨by rfl, ?_⟩) hH ?_
      rotate_left
      · ((intro w hSw; (try dsimp only at hSw); go_simp); try with_reducible rfl)
      simp only [Act.put, List.setIfInBounds_toArray, List.set_cons_zero, List.set_cons_succ]
      refine wpAnyH_done (by kernel_rfl) ?_ _
      clear hH
      have c2 : w10.cell? ⟨m, 2, none⟩ = some (.pointer (some ⟨p, 0, none⟩)) := S10.out.c2
      go_wp2_with fail
      refine (free_mo S10.out _ hfr3).mono ?_
      rintro e w11 ⟨rfl, s11, -⟩
      have S11 := Lib.hid s11
      clear s11 S10 c2
      have c2 : w11.cell? ⟨m, 2, none⟩ = some (.pointer (some ⟨p, 0, none⟩)) := S11.out.c2
      go_wp2_with fail
      refine (first_mo S11.out _ hfi).mono ?_
      rintro e w12 ⟨rfl, rfl⟩
      go_wp2_with fail
      go_ret
      exact ⟨rfl, O1.out.trans S11.out.only (by simp)⟩

set_option maxRecDepth 100000 in
theorem jrooms_lifted (os : Os) (started : os.Started) (H : Type) (enc : TypeId × Value → H) :
    ReturnsInHanded {} Try.checked os 3 .any (Rows.journalRoomsSpec.pre6 enc Try.prog Try.f3 Rows.journalRoomsRow.domain false) (Rows.journalRoomsSpec.post enc Try.prog Try.f3 false true false false) := by
  refine returnsInHanded_of_change (C := Try.checked) law_own started (by kernel_rfl) Try.func3
    (ChangeSpec.witness6 (enc := enc) (C := Try.checked) false ⟨#[], #[.int .i64 0, .int .i64 0], []⟩ 8 (by kernel_rfl) (by kernel_rfl) (by kernel_rfl) (by kernel_rfl)) ?_
  intro W base args ds gs before hval0 hW hcnd _
  have hval : ∀ (j : Nat) t v, Try.f3.params[j]? = some t → args[j]? = some v → Value.okWide Try.prog W .any base t v := hval0
  have hW' := hW
  obtain ⟨p, q, hA0, hV, rfl, hfz, hnd⟩ := hW
  have hA : DataW.TrodAll enc Try.prog W 0 (fun _ => true) true Try.f3.params.toList args.toList ds p := hA0
  rw [Try.params3] at hA hval
  obtain ⟨v0, vs0, d0, ds0, p0, q0, hargs, rfl, rfl, h0, r0⟩ := trodAll_cons hA
  obtain ⟨v1, vs1, d1, ds1, p1, q1, rfl, rfl, rfl, h1, r1⟩ := trodAll_cons r0
  obtain ⟨rfl, rfl, rfl⟩ := trodAll_nil r1
  obtain rfl : args = #[v0, v1] := by cases args; simp_all
  obtain ⟨rfl, rfl⟩ := trodVars_none hV
  obtain ⟨a0, rfl, rfl, rfl, w0⟩ := open_int Try.underlying3 (hval 0 3 v0 rfl rfl) h0
  obtain ⟨a1, rfl, rfl, rfl, w1⟩ := open_int Try.underlying3 (hval 1 3 v1 rfl rfl) h1
  clear hA0 hval0
  refine (jrooms_walk a0 a1  W w0 w1).mono fun e W' ⟨he, hg⟩ => ?_
  subst he
  exact ⟨_, rfl, post_quiet (pa := ([] ++ ([] ++ []))) (pv := []) hW' hg (fun _ _ _ => (trodAll_cons_mk (shut_bool Try.underlying4 _) trodAll_mk0)) (fun sp hsp => (trodAll_cons_mk (shut_int Try.underlying3 w0) (trodAll_cons_mk (shut_int Try.underlying3 w1) trodAll_mk0))) (fun _ _ => rfl) (by simp) (ok_one (by kernel_rfl) rfl (okWide_bool_mk Try.underlying4 _))⟩

theorem jrooms_over : Rows.journalRoomsRow.holds Try.pinned (OpenSpec.ofChange Rows.journalRoomsSpec) :=
  OpenClaim.holds_of_wide 3 Try.f3 rfl rfl rfl rfl rfl rfl rfl ⟨rfl, rfl, rfl, rfl, rfl⟩ rfl rfl rfl rfl rfl (by kernel_rfl) Try.func3 (by kernel_rfl)
    (of_decide_eq_true (by kernel_rfl)) (by unfold Func.isWrapper; first | (rw [if_pos (by decide +kernel)]; kernel_rfl) | (rw [if_neg (by decide +kernel)]; exact ⟨rfl, rfl⟩))
    (fun os started H enc _ => jrooms_lifted os started H enc)

/-- The statement. -/
theorem jrooms_holds : Rows.JournalRoomsSaid :=
  jrooms_over
#print axioms jrooms_holds
end Go.Proofs.Ytmjnbpcjpjefeaa
