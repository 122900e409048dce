/- A journal: Flush. -/
import Derived.Test.YtfnedeaemjchgaaGreatJb
namespace Go.Proofs.YtfnedeaemjchgaaGreat
open Go.RowKit Go.Maps
set_option linter.unusedSimpArgs false
set_option linter.unusedVariables false

def JL.all (j : JL) : JL := { j with fl := j.recs.length }
def JL.flushR (j : JL) (d : Disk) (s : SL) : JR :=
  if j.dead = true then ⟨3, d, j, s⟩ else if d.met.down = true then ⟨3, d, j.die true, s⟩ else if j.fl = j.recs.length then ⟨0, d, j, s⟩
  else if (d.wout j.ps).1 ≠ 0 then ⟨(d.wout j.ps).1, (d.wout j.ps).2, j.die true, s⟩
  else if (j.saveR (d.wout j.ps).2 s 0 j.note).c = 0 then ⟨0, (j.saveR (d.wout j.ps).2 s 0 j.note).d, (j.saveR (d.wout j.ps).2 s 0 j.note).j.all, (j.saveR (d.wout j.ps).2 s 0 j.note).s⟩
  else j.saveR (d.wout j.ps).2 s 0 j.note
theorem flushR_dead {j : JL} {d : Disk} {s : SL} (h : j.dead = true) : j.flushR d s = ⟨3, d, j, s⟩ := if_pos h
theorem flushR_down {j : JL} {d : Disk} {s : SL} (h : j.dead = false) (h2 : d.met.down = true) : j.flushR d s = ⟨3, d, j.die true, s⟩ := by unfold JL.flushR; rw [if_neg (by simp [h]), if_pos h2]
theorem flushR_none {j : JL} {d : Disk} {s : SL} (h : j.dead = false) (h2 : d.met.down = false) (h3 : j.fl = j.recs.length) : j.flushR d s = ⟨0, d, j, s⟩ := by unfold JL.flushR; rw [if_neg (by simp [h]), if_neg (by simp [h2]), if_pos h3]
theorem flushR_cut {j : JL} {d : Disk} {s : SL} (h : j.dead = false) (h2 : d.met.down = false) (h3 : j.fl ≠ j.recs.length) (h4 : (d.wout j.ps).1 ≠ 0) : j.flushR d s = ⟨(d.wout j.ps).1, (d.wout j.ps).2, j.die true, s⟩ := by unfold JL.flushR; rw [if_neg (by simp [h]), if_neg (by simp [h2]), if_neg h3, if_pos h4]
theorem flushR_yes {j : JL} {d : Disk} {s : SL} (h : j.dead = false) (h2 : d.met.down = false) (h3 : j.fl ≠ j.recs.length) (h4 : (d.wout j.ps).1 = 0) (h5 : (j.saveR (d.wout j.ps).2 s 0 j.note).c = 0) : j.flushR d s = ⟨0, (j.saveR (d.wout j.ps).2 s 0 j.note).d, (j.saveR (d.wout j.ps).2 s 0 j.note).j.all, (j.saveR (d.wout j.ps).2 s 0 j.note).s⟩ := by unfold JL.flushR; rw [if_neg (by simp [h]), if_neg (by simp [h2]), if_neg h3, if_neg (by simp [h4]), if_pos h5]
theorem flushR_no {j : JL} {d : Disk} {s : SL} (h : j.dead = false) (h2 : d.met.down = false) (h3 : j.fl ≠ j.recs.length) (h4 : (d.wout j.ps).1 = 0) (h5 : (j.saveR (d.wout j.ps).2 s 0 j.note).c ≠ 0) : j.flushR d s = j.saveR (d.wout j.ps).2 s 0 j.note := by unfold JL.flushR; rw [if_neg (by simp [h]), if_neg (by simp [h2]), if_neg h3, if_neg (by simp [h4]), if_neg h5]
theorem JOk.all {j : JL} (h : JOk j) : JOk j.all := ⟨h.pre, Nat.le_refl _, h.first, h.recs, h.room, h.n2, h.nm, h.note, h.booked, h.at0, h.at1⟩
theorem JBig.die {j : JL} (h : JBig j) (b : Bool) : JBig (j.die b) := ⟨h.fin, h.next⟩
theorem jflush_nil (w : World) : Calls Tryz.prog 12 #[.pointer none] w fun e w' => e = .returned (err 3) ∧ w = w' := by
  go_enter Tryz.func12, Tryz.ntmps12
  go_wp2_with fail
  refine (jdead_nil _).mono ?_
  rintro e w' ⟨rfl, rfl⟩
  go_wp2_with fail
  go_ret
  exact ⟨rfl, rfl⟩
theorem RPost.stay {w w' : World} {p q : Nat} {a : DA} {vs vt vn vr : Value} {d : Disk} {j : JL} {s : SL} {c : Int} {e : Ending} (hm : JM w' p q a vs vt vn vr d j s) (ho : Only (PA p q a) w w') (he : e = .returned (errV c)) : RPost w p q a vs vt vn vr ⟨c, d, j, s⟩ e w' := ⟨he, ⟨vr, hm, fun g hg => .inl hg⟩, ho⟩

set_option maxRecDepth 100000 in
set_option maxHeartbeats 4000000 in
theorem jflush_any {w : World} {p q : Nat} {a : DA} {vs vt vn vr : Value} {d : Disk} {j : JL} {s : SL} (hm : JM w p q a vs vt vn vr d j s) (hb : JBig j) :
    Calls Tryz.prog 12 #[.pointer (some ⟨p, 0, none⟩)] w (RPost w p q a vs vt vn vr (j.flushR d s)) := by
  have M0 := Lib.hid hm
  have HB := Lib.hid hb
  have hdead := jdead_any hm
  have q1 := iface_ne
  have q2 := iface_nerr
  cases hd : j.dead
  rotate_left
  · rw [hd] at hdead
    have F := Lib.hid (show RPost w p q a vs vt vn vr (j.flushR d s) (.returned (err 3)) w from by rw [flushR_dead hd]; exact .stay hm (Only.refl _ _) rfl)
    clear hm hb hd
    go_enter Tryz.func12, Tryz.ntmps12
    go_wp2_with fail
    refine hdead.mono ?_
    rintro e w' ⟨rfl, rfl⟩
    go_wp2_with fail
    go_ret
    exact F.out
  rw [hd] at hdead
  have c0 := hm.c0
  have hdown := down_any _ _ _ _ _ _ hm.dev.blk
  have HD := Lib.hid hd
  cases hdn : d.met.down
  rotate_left
  · rw [hdn] at hdown
    have HDN := Lib.hid hdn
    clear hm hb hd hdn
    go_enter Tryz.func12, Tryz.ntmps12
    go_wp2_with fail
    refine hdead.mono ?_
    rintro e w' ⟨rfl, rfl⟩
    go_wp2_with fail
    refine hdown.mono ?_
    rintro e w' ⟨rfl, rfl⟩
    go_wp2_with fail
    refine (jmet_any M0.out 3).mono ?_
    rintro e w1 ⟨rfl, m1, o1⟩
    have F := Lib.hid (show RPost w p q a vs vt vn vr (j.flushR d s) (.returned (errV 3)) w1 from by rw [flushR_down HD.out HDN.out]; exact .stay m1 (o1.mono (fun k hk => by rw [List.mem_singleton.1 hk]; exact jbl_p_sub)) rfl)
    clear m1 o1 M0
    rw [show errV 3 = err 3 from rfl] at F ⊢
    go_wp2_with fail
    go_ret
    exact F.out
  rw [hdn] at hdown
  have HDN := Lib.hid hdn
  have hfl := hm.ok.fl
  have hnx := hb.next
  have enx : (j.next : Int) = (j.first : Int) + (j.recs.length : Int) := by unfold JL.next; omega
  have ENX := Lib.hid enx
  by_cases h3 : j.fl = j.recs.length
  · have hq : (((j.first : Int) + (j.fl : Int)) == (j.next : Int)) = true := by rw [enx, h3]; simp
    have H3 := Lib.hid h3
    clear hm hb hd hdn h3 enx
    go_enter Tryz.func12, Tryz.ntmps12
    go_wp2_with fail
    refine hdead.mono ?_
    rintro e w' ⟨rfl, rfl⟩
    go_wp2_with fail
    refine hdown.mono ?_
    rintro e w' ⟨rfl, rfl⟩
    go_wp2_with fail
    have o1 : Only [] w w.drew := (Only.refl [] w).drew
    have M1 := Lib.hid (M0.out.quiet o1)
    have O1 := Lib.hid o1
    clear o1 M0
    refine wp_region_held_drew (S := fun w' => w'.cell? ⟨p, 8, none⟩ = some (.int .i64 ((j.first : Int) + j.fl))) (by kernel_rfl) M1.out.c8 (fun hH => ?_)
    refine take_list (i := 0) (v := ?_) rfl (by kernel_rfl) (by kernel_rfl) (by kernel_rfl) (fun _ _ _ h => h) (Or.inl ⟨by rfl, ?_⟩) hH ?_
    rotate_left
    · ((intro w hSw; (try dsimp only at hSw); go_simp); try with_reducible rfl)
    simp only [Act.put, List.setIfInBounds_toArray, List.set_cons_zero, List.set_cons_succ]
    refine take_list (i := 1) (v := ?_) rfl (by kernel_rfl) (by kernel_rfl) (by kernel_rfl) (fun _ _ _ h => h) (Or.inl ⟨by rfl, ?_⟩) hH ?_
    rotate_left
    · ((intro w hSw; (try dsimp only at hSw); go_simp); try with_reducible rfl)
    simp only [Act.put, List.setIfInBounds_toArray, List.set_cons_zero, List.set_cons_succ]
    refine take_list (i := 2) (v := ?_) rfl (by kernel_rfl) (by kernel_rfl) (by kernel_rfl) (fun _ _ _ h => h) (Or.inl ⟨by rfl, ?_⟩) hH ?_
    rotate_left
    · ((intro w hSw; (try dsimp only at hSw); go_simp); try with_reducible rfl)
    simp only [Act.put, List.setIfInBounds_toArray, List.set_cons_zero, List.set_cons_succ]
    refine take_list (i := 3) (v := ?_) rfl (by kernel_rfl) (by kernel_rfl) (by kernel_rfl) (fun _ _ _ h => h) (Or.inl ⟨by rfl, ?_⟩) hH ?_
    rotate_left
    · ((intro w hSw; (try dsimp only at hSw); go_simp); try with_reducible rfl)
    simp only [Act.put, List.setIfInBounds_toArray, List.set_cons_zero, List.set_cons_succ]
    refine take_list (i := 4) (v := ?_) rfl (by kernel_rfl) (by kernel_rfl) (by kernel_rfl) (fun _ _ _ h => h) (Or.inl ⟨by rfl, ?_⟩) hH ?_
    rotate_left
    · ((intro w hSw; (try dsimp only at hSw); go_simp); try with_reducible rfl)
    simp only [Act.put, List.setIfInBounds_toArray, List.set_cons_zero, List.set_cons_succ]
    refine wpAnyH_ready (rs := [5]) (by kernel_rfl) (by simp) ?_
    refine ready_list rfl (fun K hK => ?_)
    go_simp
    refine (jnext_any M1.out HB.out).mono ?_
    rintro e w2 ⟨rfl, hd2⟩
    have M2 := Lib.hid (M1.out.quiet hd2.only)
    have O2 := Lib.hid (O1.out.trans hd2.only (by simp))
    refine hK.out _ _ M2.out.c8 (fun hH => ?_)
    clear hK K hd2 M1 O1
    refine take_list (i := 6) (v := ?_) rfl (by kernel_rfl) (by kernel_rfl) (by kernel_rfl) (fun _ _ _ h => h) (Or.inl ⟨by rfl, ?_⟩) hH ?_
    rotate_left
    · ((intro w hSw; (try dsimp only at hSw); go_simp); try with_reducible rfl)
    simp only [Act.put, List.setIfInBounds_toArray, List.set_cons_zero, List.set_cons_succ]
    refine wpAnyH_done (by kernel_rfl) ?_ _
    clear hH
    have F := Lib.hid (show RPost w p q a vs vt vn vr (j.flushR d s) (.returned .nilIface) w2 from by rw [flushR_none HD.out HDN.out H3.out]; exact .stay M2.out (O2.out.mono (by simp)) rfl)
    clear M2 O2
    go_wp2_with fail
    go_ret
    exact F.out
  have hq : (((j.first : Int) + (j.fl : Int)) == (j.next : Int)) = false := by rw [enx]; simp; omega
  have H3 := Lib.hid h3
  obtain ⟨na, nc, rfl, -⟩ := id hm.note.bytes
  clear hm hb hd hdn h3 enx
  go_enter Tryz.func12, Tryz.ntmps12
  go_wp2_with fail
  refine hdead.mono ?_
  rintro e w' ⟨rfl, rfl⟩
  go_wp2_with fail
  refine hdown.mono ?_
  rintro e w' ⟨rfl, rfl⟩
  go_wp2_with fail
  have o1 : Only [] w w.drew := (Only.refl [] w).drew
  have M1 := Lib.hid (M0.out.quiet o1)
  have O1 := Lib.hid o1
  clear o1 M0 c0 hdead hdown
  refine wp_region_held_drew (S := fun w' => w'.cell? ⟨p, 8, none⟩ = some (.int .i64 ((j.first : Int) + j.fl))) (by kernel_rfl) M1.out.c8 (fun hH => ?_)
  refine take_list (i := 0) (v := ?_) rfl (by kernel_rfl) (by kernel_rfl) (by kernel_rfl) (fun _ _ _ h => h) (Or.inl ⟨by rfl, ?_⟩) hH ?_
  rotate_left
  · ((intro w hSw; (try dsimp only at hSw); go_simp); try with_reducible rfl)
  simp only [Act.put, List.setIfInBounds_toArray, List.set_cons_zero, List.set_cons_succ]
  refine take_list (i := 1) (v := ?_) rfl (by kernel_rfl) (by kernel_rfl) (by kernel_rfl) (fun _ _ _ h => h) (Or.inl ⟨by rfl, ?_⟩) hH ?_
  rotate_left
  · ((intro w hSw; (try dsimp only at hSw); go_simp); try with_reducible rfl)
  simp only [Act.put, List.setIfInBounds_toArray, List.set_cons_zero, List.set_cons_succ]
  refine take_list (i := 2) (v := ?_) rfl (by kernel_rfl) (by kernel_rfl) (by kernel_rfl) (fun _ _ _ h => h) (Or.inl ⟨by rfl, ?_⟩) hH ?_
  rotate_left
  · ((intro w hSw; (try dsimp only at hSw); go_simp); try with_reducible rfl)
  simp only [Act.put, List.setIfInBounds_toArray, List.set_cons_zero, List.set_cons_succ]
  refine take_list (i := 3) (v := ?_) rfl (by kernel_rfl) (by kernel_rfl) (by kernel_rfl) (fun _ _ _ h => h) (Or.inl ⟨by rfl, ?_⟩) hH ?_
  rotate_left
  · ((intro w hSw; (try dsimp only at hSw); go_simp); try with_reducible rfl)
  simp only [Act.put, List.setIfInBounds_toArray, List.set_cons_zero, List.set_cons_succ]
  refine take_list (i := 4) (v := ?_) rfl (by kernel_rfl) (by kernel_rfl) (by kernel_rfl) (fun _ _ _ h => h) (Or.inl ⟨by rfl, ?_⟩) hH ?_
  rotate_left
  · ((intro w hSw; (try dsimp only at hSw); go_simp); try with_reducible rfl)
  simp only [Act.put, List.setIfInBounds_toArray, List.set_cons_zero, List.set_cons_succ]
  refine wpAnyH_ready (rs := [5]) (by kernel_rfl) (by simp) ?_
  refine ready_list rfl (fun K hK => ?_)
  go_simp
  refine (jnext_any M1.out HB.out).mono ?_
  rintro e w2 ⟨rfl, hd2⟩
  have M2 := Lib.hid (M1.out.quiet hd2.only)
  have O2 := Lib.hid (O1.out.trans hd2.only (by simp))
  refine hK.out _ _ M2.out.c8 (fun hH => ?_)
  clear hK K hd2 M1 O1
  refine take_list (i := 6) (v := ?_) rfl (by kernel_rfl) (by kernel_rfl) (by kernel_rfl) (fun _ _ _ h => h) (Or.inl ⟨by rfl, ?_⟩) hH ?_
  rotate_left
  · ((intro w hSw; (try dsimp only at hSw); go_simp); try with_reducible rfl)
  simp only [Act.put, List.setIfInBounds_toArray, List.set_cons_zero, List.set_cons_succ]
  refine wpAnyH_done (by kernel_rfl) ?_ _
  clear hH
  go_wp2_with fail
  refine (jwriteOut_any M2.out HB.out).mono ?_
  rintro e w3 ⟨rfl, m3, o3⟩
  have M3 := Lib.hid m3
  have O3 := Lib.hid ((O2.out.mono (T := PA p q a) (by simp)).trans o3 (fun k hk => .inl (jbl_dev_sub hk)))
  clear m3 o3 M2 O2 hq
  by_cases hc : (d.wout j.ps).1 = 0
  rotate_left
  · rw [errV_nz hc]
    have HC := Lib.hid hc
    clear hc
    go_wp2_with fail
    have hmet := jmet_any M3.out (d.wout j.ps).1
    rw [errV_nz HC.out] at hmet
    refine hmet.mono ?_
    rintro e w4 ⟨rfl, m4, o4⟩
    have F := Lib.hid (show RPost w p q a vs vt (.slice na j.note.length nc) vr (j.flushR d s) (.returned (err (d.wout j.ps).1)) w4 from by
      rw [flushR_cut HD.out HDN.out H3.out HC.out]
      rw [show decide ((d.wout j.ps).1 ≠ 0) = true from by simpa using HC.out] at m4
      exact .stay m4 (O3.out.trans o4 (fun k hk => .inl (by rw [List.mem_singleton.1 hk]; exact jbl_p_sub))) (by rw [errV_nz HC.out]))
    clear m4 o4 M3 O3 hmet
    go_wp2_with fail
    go_ret
    exact F.out
  rw [errV_z hc]
  have HC := Lib.hid hc
  clear hc
  go_wp2_with fail
  generalize hd2 : (d.wout j.ps).2 = d2 at M3
  have HD2 := Lib.hid hd2
  clear hd2
  have o5 : Only [] w3 w3.drew := (Only.refl [] w3).drew
  have M5 := Lib.hid (M3.out.quiet o5)
  have O5 := Lib.hid (O3.out.trans o5 (by simp))
  clear o5 M3 O3
  refine wp_region_held_drew (S := fun w' => w'.cell? ⟨p, 6, none⟩ = some (.int .i64 j.first) ∧ w'.cell? ⟨p, 9, none⟩ = some (.slice na j.note.length nc)) (by kernel_rfl) ⟨M5.out.c6, M5.out.c9⟩ (fun hH => ?_)
  refine take_list (i := 0) (v := ?_) rfl (by kernel_rfl) (by kernel_rfl) (by kernel_rfl) (fun _ _ _ h => h) (Or.inl ⟨by rfl, ?_⟩) hH ?_
  rotate_left
  · ((intro w hSw; (try dsimp only at hSw); go_simp); try with_reducible rfl)
  simp only [Act.put, List.setIfInBounds_toArray, List.set_cons_zero, List.set_cons_succ]
  refine take_list (i := 1) (v := ?_) rfl (by kernel_rfl) (by kernel_rfl) (by kernel_rfl) (fun _ _ _ h => h) (Or.inl ⟨by rfl, ?_⟩) hH ?_
  rotate_left
  · ((intro w hSw; (try dsimp only at hSw); go_simp); try with_reducible rfl)
  simp only [Act.put, List.setIfInBounds_toArray, List.set_cons_zero, List.set_cons_succ]
  refine take_list (i := 2) (v := ?_) rfl (by kernel_rfl) (by kernel_rfl) (by kernel_rfl) (fun _ _ _ h => h) (Or.inl ⟨by rfl, ?_⟩) hH ?_
  rotate_left
  · ((intro w hSw; (try dsimp only at hSw); go_simp); try with_reducible rfl)
  simp only [Act.put, List.setIfInBounds_toArray, List.set_cons_zero, List.set_cons_succ]
  refine take_list (i := 3) (v := ?_) rfl (by kernel_rfl) (by kernel_rfl) (by kernel_rfl) (fun _ _ _ h => h) (Or.inl ⟨by rfl, ?_⟩) hH ?_
  rotate_left
  · ((intro w hSw; (try dsimp only at hSw); go_simp); try with_reducible rfl)
  simp only [Act.put, List.setIfInBounds_toArray, List.set_cons_zero, List.set_cons_succ]
  refine take_list (i := 4) (v := ?_) rfl (by kernel_rfl) (by kernel_rfl) (by kernel_rfl) (fun _ _ _ h => h) (Or.inl ⟨by rfl, ?_⟩) hH ?_
  rotate_left
  · ((intro w hSw; (try dsimp only at hSw); go_simp); try with_reducible rfl)
  simp only [Act.put, List.setIfInBounds_toArray, List.set_cons_zero, List.set_cons_succ]
  refine take_list (i := 5) (v := ?_) rfl (by kernel_rfl) (by kernel_rfl) (by kernel_rfl) (fun _ _ _ h => h) (Or.inl ⟨by rfl, ?_⟩) hH ?_
  rotate_left
  · ((intro w hSw; (try dsimp only at hSw); go_simp); try with_reducible rfl)
  simp only [Act.put, List.setIfInBounds_toArray, List.set_cons_zero, List.set_cons_succ]
  refine take_list (i := 6) (v := ?_) rfl (by kernel_rfl) (by kernel_rfl) (by kernel_rfl) (fun _ _ _ h => h) (Or.inl ⟨by rfl, ?_⟩) hH ?_
  rotate_left
  · ((intro w hSw; (try dsimp only at hSw); go_simp); try with_reducible rfl)
  simp only [Act.put, List.setIfInBounds_toArray, List.set_cons_zero, List.set_cons_succ]
  refine take_list (i := 7) (v := ?_) rfl (by kernel_rfl) (by kernel_rfl) (by kernel_rfl) (fun _ _ _ h => h) (Or.inl ⟨by rfl, ?_⟩) hH ?_
  rotate_left
  · ((intro w hSw; (try dsimp only at hSw); go_simp); try with_reducible rfl)
  simp only [Act.put, List.setIfInBounds_toArray, List.set_cons_zero, List.set_cons_succ]
  refine take_list (i := 8) (v := ?_) rfl (by kernel_rfl) (by kernel_rfl) (by kernel_rfl) (fun _ _ _ h => h) (Or.inl ⟨by rfl, ?_⟩) hH ?_
  rotate_left
  · ((intro w hSw; (try dsimp only at hSw); go_simp); try with_reducible rfl)
  simp only [Act.put, List.setIfInBounds_toArray, List.set_cons_zero, List.set_cons_succ]
  refine wpAnyH_ready (rs := [9]) (by kernel_rfl) (by simp) ?_
  refine ready_list rfl (fun K hK => ?_)
  go_simp
  refine (jsave_any M5.out HB.out 0 (Nat.zero_le _) (j.first : Int) (by omega) _ j.note M5.out.note.bytes M5.out.ok.note).mono ?_
  rintro e w6 ⟨rfl, ⟨v6, m6, hv6⟩, o6⟩
  have Z5 := O5.out.size
  have M6 := Lib.hid m6
  have V6 := Lib.hid (fun g hg => (hv6 g hg).imp id (fun h => Nat.le_trans Z5 h))
  have O6 := Lib.hid (O5.out.trans o6 (fun k hk => .inl hk))
  refine hK.out _ _ ⟨m6.c6, m6.c9⟩ (fun hH => ?_)
  clear hK K m6 hv6 o6 M5 O5 Z5
  refine take_list (i := 10) (v := ?_) rfl (by kernel_rfl) (by kernel_rfl) (by kernel_rfl) (fun _ _ _ h => h) (Or.inl ⟨by rfl, ?_⟩) hH ?_
  rotate_left
  · ((intro w hSw; (try dsimp only at hSw); go_simp); try with_reducible rfl)
  simp only [Act.put, List.setIfInBounds_toArray, List.set_cons_zero, List.set_cons_succ]
  refine wpAnyH_done (by kernel_rfl) ?_ _
  clear hH
  by_cases hc : (j.saveR d2 s 0 j.note).c = 0
  rotate_left
  · have F := Lib.hid (show RPost w p q a vs vt (.slice na j.note.length nc) vr (j.flushR d s) (.returned (errV (j.saveR d2 s 0 j.note).c)) w6 from by
      rw [flushR_no HD.out HDN.out H3.out HC.out (by rw [HD2.out]; exact hc), HD2.out]
      exact ⟨rfl, ⟨v6, M6.out, V6.out⟩, O6.out⟩)
    rw [errV_nz hc] at F ⊢
    clear hc M6 V6 O6
    go_wp2_with fail
    go_ret
    exact F.out
  rw [errV_z hc]
  have HC2 := Lib.hid hc
  clear hc
  go_wp2_with fail
  refine (jnext_any M6.out (HB.out.die _)).mono ?_
  rintro e w7 ⟨rfl, hd7⟩
  have M7 := M6.out.quiet hd7.only
  have O7 := Lib.hid (O6.out.trans hd7.only (by simp))
  have c8 := M7.c8
  have f8 := M7.free 8
  have H7 := Lib.hid M7
  clear hd7 M6 O6 M7
  go_wp2_with fail
  have H8 := H7.out.jw.set 8 (.int .i64 ((j.saveR d2 s 0 j.note).j.next : Nat))
  have o8 : Only [p] w7 (w7.setCell ⟨p, 8, none⟩ (.int .i64 ((j.saveR d2 s 0 j.note).j.next : Nat))) := (Only.refl _ _).setCell (by simp) _
  go_ret
  rw [flushR_yes HD.out HDN.out H3.out HC.out (by rw [HD2.out]; exact HC2.out), HD2.out]
  refine ⟨rfl, ⟨v6, H8.jm ?_ rfl rfl rfl H7.out.ok.all H7.out.here H7.out.at_, V6.out⟩, O7.out.trans o8 (fun k hk => .inl (by rw [List.mem_singleton.1 hk]; exact jbl_p_sub))⟩
  have e1 : (((j.saveR d2 s 0 j.note).j.next : Nat) : Int) = (j.first : Int) + (j.recs.length : Int) := ENX.out
  rw [e1]
  rfl
end Go.Proofs.YtfnedeaemjchgaaGreat
/- A journal: drop, Trim, Get. -/
namespace Go.Proofs.YtfnedeaemjchgaaGreat
open Go.RowKit Go.Maps
set_option linter.unusedSimpArgs false
set_option linter.unusedVariables false

/-! ### rows of ints -/
theorem elem_ints : Tryz.prog.underlying 28 = some (.slice (Tryz.prog.elem 28)) := by kernel_rfl
theorem size_int (w : World) : (sizeOf (Tryz.prog.elem 28)).run Tryz.prog w = .ok 1 w := by kernel_rfl
theorem slice_fromI {w : World} {va : Option Addr} {vc : Nat} {l : List Int} (hb : IntsV w (.slice va l.length vc) l) (hf : l.length ≤ vc) (k : Nat) (hk : k ≤ l.length) (kk : IntKind) :
    ∃ b, (∀ w, (Instr.sliceAt 28 (.slice va l.length vc) (some (.int kk (k : Int))) none none).run Tryz.prog w = .ok (.slice b (l.length - k) (vc - k)) w) ∧ IntsV w (.slice b (l.length - k) (vc - k)) (l.drop k) := by
  refine ⟨if vc = k then va else va.map (·.add (k * 1)), fun w => ?_, ?_⟩
  · rw [run_sliceAt_slice w _ _ _ _ _ elem_ints, run_slice_l w _ _ _ _ elem_ints kk (k : Int) (by omega) (by omega), size_int]
    simp [Result.andThen, sliced]
  · obtain ⟨a', cap'', e, hc⟩ := hb
    injection e with e1 e2 e3
    subst e1
    refine ⟨_, _, by rw [List.length_drop], fun i c hi => ?_⟩
    rw [List.getElem?_drop] at hi
    have hlt := (List.getElem?_eq_some_iff.1 hi).1
    obtain ⟨hw, g, off, ha, hcell⟩ := hc _ c hi
    refine ⟨hw, g, off + k, ?_, by rw [Nat.add_assoc]; exact hcell⟩
    rw [if_neg (by omega), ha, Option.map_some, Nat.mul_one, Addr.add_lit]
theorem nilI_yes (n c : Nat) (w : World) : (binOp .eql 28 (.slice none n c) (.slice none 0 0)).run Tryz.prog w = .ok (.bool true) w := by kernel_rfl
theorem nilI_no (ad : Addr) (n c : Nat) (w : World) : (binOp .eql 28 (.slice (some ad) n c) (.slice none 0 0)).run Tryz.prog w = .ok (.bool false) w := by kernel_rfl
theorem OwnI.made0 (w : World) : OwnI (w.alloc (.cells #[] 3)) w.heap.size (.slice (some ⟨w.heap.size, 0, none⟩) 0 0) [] :=
  ⟨⟨rfl, .inr ⟨w.heap.size, 0, #[], rfl, Nat.le_refl _, heap_new w _, Nat.le_refl _, by unfold maxLen; omega, by simp, by simp [iv]⟩⟩, by simp⟩
theorem cloneI_any (v : Value) (l : List Int) (w : World) (hv : IntsV w v l) (hl : l.length ≤ 1099511627776) :
    Calls Tryz.prog 66 #[v] w fun e w' => ∃ a cap, e = .returned (.slice a l.length cap) ∧ OwnI w' w.heap.size (.slice a l.length cap) l ∧ Only [] w w' := by
  have HV := Lib.hid hv
  obtain ⟨va, vc, rfl, hc⟩ := hv
  cases va with
  | none =>
    cases l with
    | nil =>
      clear hc
      have q := nilI_yes 0 vc
      go_enter Tryz.func66, Tryz.ntmps66
      go_wp2
      go_ret
      exact ⟨none, 0, rfl, OwnI.nil _ _, Only.refl _ _⟩
    | cons x t =>
      obtain ⟨_, b, off, h, _⟩ := hc 0 x rfl
      cases h
  | some ad =>
    clear hc
    have q := nilI_no ad l.length vc
    go_enter Tryz.func66, Tryz.ntmps66
    go_wp2_with (refine wpList_append_ints rfl (.tmp 5) (.tmp 6) rfl w.heap.size _ [] (by rfl) (OwnI.made0 w) _ l (by rfl) (HV.out.kept ((Only.refl [] w).alloc _) (fun _ _ _ _ _ => by simp)) l.length (by simp) l rfl (by omega) (by simp) ?_; intro a' cap w2 h2 e2)
    go_ret
    refine ⟨a', cap, rfl, h2, (((Only.refl [] w).alloc _).trans e2.only (fun g hg => .inr ?_))⟩
    have hg' : (Value.slice (some ⟨w.heap.size, 0, none⟩) 0 0).ownBlock = some g := by simpa using hg
    cases hg'
    exact Nat.le_refl _

theorem sep_fresh {w : World} {v x : Value} {l : Sec} (hx : Held w x l) (hv : ∀ g, v.ownBlock = some g → w.heap.size ≤ g) : Sep v x := fun g h1 h2 => by
  obtain ⟨c, hc⟩ := hx.blk g h2
  have := lt_of_heap hc
  have := hv g h1
  omega
section
variable {w w' : World} {p q : Nat} {a : DA} {cs : Array Value} {vs vt vn vr vs' vt' : Value} {S S' N : Sec} {T T' : List Int} {d : Disk} {s : SL}
theorem JW.withS (h : JW w p q a cs vs vt vn vr S T N d s) (ht : Own w 0 vs' S') (h1 : Sep vs' vn) (h2 : Sep vs' vr) : JW w p q a cs vs' vt vn vr S' T N d s := ⟨h.blk, h.slot, h.dev, ht, h.sts, h.note, h1, h2⟩
theorem JW.withT (h : JW w p q a cs vs vt vn vr S T N d s) (ht : OwnI w 0 vt' T') : JW w p q a cs vs vt' vn vr S T' N d s := ⟨h.blk, h.slot, h.dev, h.str, ht, h.note, h.sn, h.sr⟩
end
/-! ### drop -/
def JL.cutP (j : JL) (k : Nat) : Nat := j.start + pos j.recs k
def JL.cutB (j : JL) (k : Nat) : Nat := j.cutP k - j.cutP k % 470
def JL.drop (j : JL) (k : Nat) : JL :=
  { j with first := j.first + k, start := j.cutP k, pre := (j.stream.drop (j.cutB k - j.base)).take (j.cutP k % 470), recs := j.recs.drop k, fl := j.fl - k }
theorem drop_stream {j : JL} (h : JOk j) (k : Nat) : (j.drop k).stream = j.stream.drop (j.cutB k - j.base) := by
  have hp := h.pre
  have hb : j.base = j.start - j.start % 470 := rfl
  have hc : j.cutB k = j.cutP k - j.cutP k % 470 := rfl
  have hcp : j.cutP k = j.start + pos j.recs k := rfl
  have e1 : flat (j.recs.drop k) = j.stream.drop (j.start % 470 + pos j.recs k) := by
    unfold JL.stream
    rw [← flat_drop, ← hp, ← List.drop_drop]
    simp
  show (j.stream.drop (j.cutB k - j.base)).take (j.cutP k % 470) ++ flat (j.recs.drop k) = _
  rw [e1]
  have e2 : j.stream.drop (j.start % 470 + pos j.recs k) = (j.stream.drop (j.cutB k - j.base)).drop (j.cutP k % 470) := by
    rw [List.drop_drop]
    congr 1
    omega
  rw [e2, List.take_append_drop]
theorem JOk.drop {j : JL} (h : JOk j) {k : Nat} (hk : k ≤ j.fl) : JOk (j.drop k) := by
  have hfl := h.fl
  have hb : j.base = j.start - j.start % 470 := rfl
  have hc : j.cutB k = j.cutP k - j.cutP k % 470 := rfl
  have hcp : j.cutP k = j.start + pos j.recs k := rfl
  have hs := h.stream
  have hpl := pos_le j.recs k
  refine ⟨?_, ?_, ?_, fun r hr => h.recs r (List.mem_of_mem_drop hr), ?_, h.n2, h.nm, h.note, h.booked, h.at0, h.at1⟩
  · show ((j.stream.drop (j.cutB k - j.base)).take (j.cutP k % 470)).length = j.cutP k % 470
    rw [List.length_take, List.length_drop, hs]
    omega
  · show j.fl - k ≤ (j.recs.drop k).length
    rw [List.length_drop]
    omega
  · have := h.first
    show 1 ≤ j.first + k
    omega
  · rw [drop_stream h, List.length_drop]
    have := h.room
    show _ ≤ j.n * 470
    omega
theorem drop_fin {j : JL} {k : Nat} : (j.drop k).fin = j.fin := by
  have := pos_drop j.recs k
  show j.start + pos j.recs k + (flat (j.recs.drop k)).length = j.start + (flat j.recs).length
  omega
theorem drop_next {j : JL} {k : Nat} (hk : k ≤ j.recs.length) : (j.drop k).next = j.next := by
  show j.first + k + (j.recs.drop k).length = j.first + j.recs.length
  rw [List.length_drop]
  omega

set_option maxRecDepth 100000 in
set_option maxHeartbeats 4000000 in
theorem jdrop_any {w : World} {p q : Nat} {a : DA} {vs vt vn vr : Value} {d : Disk} {j : JL} {s : SL} (hm : JM w p q a vs vt vn vr d j s) (hb : JBig j) (k : Nat) (hk : k ≤ j.fl) (x : Int) (hx : x = (j.first : Int) + k) :
    Calls Tryz.prog 48 #[.pointer (some ⟨p, 0, none⟩), .int .i64 x] w fun e w' => e = .returned (.tuple #[]) ∧ Only [p] w w' ∧ ∃ vs' vt', JM w' p q a vs' vt' vn vr d (j.drop k) s ∧ (∀ g, vs'.ownBlock = some g → w.heap.size ≤ g) ∧ ∀ g, vt'.ownBlock = some g → w.heap.size ≤ g := by
  have M0 := Lib.hid hm
  have HB := Lib.hid hb
  have HX := Lib.hid hx
  have hfl := hm.ok.fl
  have hofs := joffset_any hm hb k (by omega) x hx
  have hbig := (hb.row (k := k) (by omega))
  have hcp : j.cutP k = j.start + pos j.recs k := rfl
  have hcb : j.cutB k = j.cutP k - j.cutP k % 470 := rfl
  have hbb : j.base = j.start - j.start % 470 := rfl
  have hsl := hm.ok.stream
  have hlen := hm.ok.len
  have hcnt := hm.ok.count
  have hpl := pos_le j.recs k
  rw [← hcp] at hofs
  obtain ⟨sa, sc, rfl, hsc⟩ := hm.strS
  have hsf := hm.str.fit _ _ _ rfl
  unfold maxLen at hsf
  obtain ⟨ta, tc, rfl⟩ := hm.stsS
  have htc : j.recs.length ≤ tc := by
    obtain ⟨a', c', e, hle⟩ := own_shape hm.sts.1
    rw [offs_length] at e hle
    cases e
    exact hle
  have hm1 : j.cutB k - j.base ≤ j.stream.length := by omega
  have hd1 : ((j.cutB k : Nat) : Int) - (j.base : Int) = ((j.cutB k - j.base : Nat) : Int) := by omega
  have hcb2 : ((j.cutP k : Nat) : Int) - ((j.cutP k : Nat) : Int) % 470 = ((j.cutB k : Nat) : Int) := by omega
  have hcbl : j.cutB k ≤ 1152921504606846976 := by omega
  have hcpl : j.cutP k ≤ 1152921504606846976 := by omega
  have hbl : j.base ≤ j.cutB k := by omega
  have hok := hm.ok.drop hk
  have HOK := Lib.hid hok
  have DS := Lib.hid (drop_stream hm.ok k)
  have hlx : x - (j.first : Int) = (k : Int) := by omega
  have hf0 : (j.first : Int) ≤ 1152921504606846976 := by omega
  have hx1 : x ≤ 1152921504606846976 := by omega
  have hx0 : 0 ≤ x := by omega
  have HERE := Lib.hid hm.here
  have HAT := Lib.hid hm.at_
  clear hm hb hx hcp hcb hbb hsl hpl hbig hok
  generalize hP : j.cutP k = P at hofs hcb2 hcpl
  generalize hCB : j.cutB k = CB at hm1 hd1 hcb2 hcbl hbl
  have HP := Lib.hid hP
  have HCB := Lib.hid hCB
  have HD1 := Lib.hid hd1
  have HLX := Lib.hid hlx
  have HCB2 := Lib.hid hcb2
  clear hP hCB hd1 hlx hcb2
  have hw1 : IntKind.i64.wrap ((CB : Int) - (j.base : Int)) = ((CB - j.base : Nat) : Int) := by
    rw [IntKind.wrap_i64]
    have := HD1.out
    omega
  have hw2 : IntKind.i64.wrap (x - (j.first : Int)) = (k : Int) := by
    rw [IntKind.wrap_i64]
    have := HLX.out
    omega
  go_enter Tryz.func48, Tryz.ntmps48
  have hw3 := HCB2.out
  go_wp2_with fail
  refine hofs.mono ?_
  rintro e w1 ⟨rfl, hd1⟩
  have M1 := Lib.hid (M0.out.quiet hd1.only)
  have O1 := Lib.hid hd1.only
  clear hd1 M0 hofs
  go_wp2_with fail
  clear hw3
  have o2 : Only [] w1 w1.drew := (Only.refl [] w1).drew
  have M2 := Lib.hid (M1.out.quiet o2)
  have O2 := Lib.hid (O1.out.trans o2 (by simp))
  clear o2 M1 O1
  have e1 : (j.stream.drop (CB - j.base)).length = j.stream.length - (CB - j.base) := List.length_drop
  obtain ⟨bb, hrun, hbb⟩ := slice_from M2.out.str.bytes hsc (CB - j.base) hm1 .i64
  rw [← e1] at hbb hrun
  have hSl : (j.stream.drop (CB - j.base)).length ≤ 962560 := by omega
  have DS2 := Lib.hid (show (j.drop k).stream = j.stream.drop (CB - j.base) from by rw [DS.out, HCB.out])
  generalize CB - j.base = m at hrun hbb hw1 hSl DS2
  generalize sc - m = cb at hrun hbb
  generalize j.stream.drop m = T at hrun hbb hSl DS2
  have BB := Lib.hid hbb
  clear hbb e1 hm1
  refine wp_region_B (S := fun w' => w'.cell? ⟨p, 4, none⟩ = some (.int .i64 j.base) ∧ w'.cell? ⟨p, 5, none⟩ = some (.slice sa j.stream.length sc)) [0, 1, 2, 3, 4, 5, 6, 7, 8, 9, 10, 11, 12, 13, 14] (by kernel_rfl) ⟨M2.out.c4, M2.out.c5⟩ (fun hH => ?_)
  refine takeB_list (i := 0) (v := ?_) rfl (by kernel_rfl) (by kernel_rfl) (by kernel_rfl) (by kernel_rfl) (fun _ _ _ h => h) (Or.inl ⟨by rfl, ?_⟩) hH ?_
  rotate_left
  · ((intro w hSw; (try dsimp only at hSw); go_simp); try with_reducible rfl)
  simp only [Act.put, List.setIfInBounds_toArray, List.set_cons_zero, List.set_cons_succ]
  refine takeB_list (i := 1) (v := ?_) rfl (by kernel_rfl) (by kernel_rfl) (by kernel_rfl) (by kernel_rfl) (fun _ _ _ h => h) (Or.inl ⟨by rfl, ?_⟩) hH ?_
  rotate_left
  · ((intro w hSw; (try dsimp only at hSw); go_simp); try with_reducible rfl)
  simp only [Act.put, List.setIfInBounds_toArray, List.set_cons_zero, List.set_cons_succ]
  refine takeB_list (i := 2) (v := ?_) rfl (by kernel_rfl) (by kernel_rfl) (by kernel_rfl) (by kernel_rfl) (fun _ _ _ h => h) (Or.inl ⟨by rfl, ?_⟩) hH ?_
  rotate_left
  · ((intro w hSw; (try dsimp only at hSw); go_simp); try with_reducible rfl)
  simp only [Act.put, List.setIfInBounds_toArray, List.set_cons_zero, List.set_cons_succ]
  refine takeB_list (i := 3) (v := ?_) rfl (by kernel_rfl) (by kernel_rfl) (by kernel_rfl) (by kernel_rfl) (fun _ _ _ h => h) (Or.inl ⟨by rfl, ?_⟩) hH ?_
  rotate_left
  · ((intro w hSw; (try dsimp only at hSw); go_simp); try with_reducible rfl)
  simp only [Act.put, List.setIfInBounds_toArray, List.set_cons_zero, List.set_cons_succ]
  refine takeB_list (i := 4) (v := ?_) rfl (by kernel_rfl) (by kernel_rfl) (by kernel_rfl) (by kernel_rfl) (fun _ _ _ h => h) (Or.inl ⟨by rfl, ?_⟩) hH ?_
  rotate_left
  · ((intro w hSw; (try dsimp only at hSw); go_simp); try with_reducible rfl)
  simp only [Act.put, List.setIfInBounds_toArray, List.set_cons_zero, List.set_cons_succ]
  refine takeB_list (i := 5) (v := ?_) rfl (by kernel_rfl) (by kernel_rfl) (by kernel_rfl) (by kernel_rfl) (fun _ _ _ h => h) (Or.inl ⟨by rfl, ?_⟩) hH ?_
  rotate_left
  · ((intro w hSw; (try dsimp only at hSw); go_simp); try with_reducible rfl)
  simp only [Act.put, List.setIfInBounds_toArray, List.set_cons_zero, List.set_cons_succ]
  refine takeB_list (i := 6) (v := ?_) rfl (by kernel_rfl) (by kernel_rfl) (by kernel_rfl) (by kernel_rfl) (fun _ _ _ h => h) (Or.inl ⟨by rfl, ?_⟩) hH ?_
  rotate_left
  · ((intro w hSw; (try dsimp only at hSw); go_simp); try with_reducible rfl)
  simp only [Act.put, List.setIfInBounds_toArray, List.set_cons_zero, List.set_cons_succ]
  refine takeB_list (i := 7) (v := ?_) rfl (by kernel_rfl) (by kernel_rfl) (by kernel_rfl) (by kernel_rfl) (fun _ _ _ h => h) (Or.inl ⟨by rfl, ?_⟩) hH ?_
  rotate_left
  · ((intro w hSw; (try dsimp only at hSw); go_simp); try with_reducible rfl)
  simp only [Act.put, List.setIfInBounds_toArray, List.set_cons_zero, List.set_cons_succ]
  refine takeB_list (i := 8) (v := ?_) rfl (by kernel_rfl) (by kernel_rfl) (by kernel_rfl) (by kernel_rfl) (fun _ _ _ h => h) (Or.inl ⟨by rfl, ?_⟩) hH ?_
  rotate_left
  · ((intro w hSw; (try dsimp only at hSw); go_simp); try with_reducible rfl)
  simp only [Act.put, List.setIfInBounds_toArray, List.set_cons_zero, List.set_cons_succ]
  refine takeB_list (i := 9) (v := ?_) rfl (by kernel_rfl) (by kernel_rfl) (by kernel_rfl) (by kernel_rfl) (fun _ _ _ h => h) (Or.inl ⟨by rfl, ?_⟩) hH ?_
  rotate_left
  · ((intro w hSw; (try dsimp only at hSw); go_simp); try with_reducible rfl)
  simp only [Act.put, List.setIfInBounds_toArray, List.set_cons_zero, List.set_cons_succ]
  refine takeB_list (i := 10) (v := ?_) rfl (by kernel_rfl) (by kernel_rfl) (by kernel_rfl) (by kernel_rfl) (fun _ _ _ h => h) (Or.inl ⟨by rfl, ?_⟩) hH ?_
  rotate_left
  · ((intro w hSw; (try dsimp only at hSw); go_simp); try with_reducible rfl)
  simp only [Act.put, List.setIfInBounds_toArray, List.set_cons_zero, List.set_cons_succ]
  refine takeB_list (i := 11) (v := ?_) rfl (by kernel_rfl) (by kernel_rfl) (by kernel_rfl) (by kernel_rfl) (fun _ _ _ h => h) (Or.inl ⟨by rfl, ?_⟩) hH ?_
  rotate_left
  · ((intro w hSw; (try dsimp only at hSw); go_simp); try with_reducible rfl)
  simp only [Act.put, List.setIfInBounds_toArray, List.set_cons_zero, List.set_cons_succ]
  clear hrun hw1
  refine readyB_in (i := 12) (by kernel_rfl) rfl (fun K hK => ?_)
  go_simp
  refine (clone_any _ T w1.drew BB.out (by omega)).mono ?_
  rintro e w3 ⟨a3, k3, rfl, h3, o3⟩
  have M3 := Lib.hid (M2.out.quiet o3)
  have H3 := Lib.hid h3
  have F3 := Lib.hid (fun g hg => (h3.lt (k := g) hg).1)
  have O3 := Lib.hid (O2.out.trans o3 (by simp))
  have Z2 := O2.out.size
  refine hK.out _ _ ⟨M3.out.c4, M3.out.c5⟩ (fun hH => ?_)
  clear hK K h3 o3 BB
  refine takeB_list (i := 13) (v := ?_) rfl (by kernel_rfl) (by kernel_rfl) (by kernel_rfl) (by kernel_rfl) (fun _ _ _ h => h) (Or.inl ⟨by rfl, ?_⟩) hH ?_
  rotate_left
  · ((intro w hSw; (try dsimp only at hSw); go_simp); try with_reducible rfl)
  simp only [Act.put, List.setIfInBounds_toArray, List.set_cons_zero, List.set_cons_succ]
  refine takeB_list (i := 14) (v := ?_) rfl (by kernel_rfl) (by kernel_rfl) (by kernel_rfl) (by kernel_rfl) (fun _ _ _ h => h) (Or.inl ⟨by rfl, ?_⟩) hH ?_
  rotate_left
  · ((intro w hSw; (try dsimp only at hSw); go_simp); try with_reducible rfl)
  simp only [Act.put, List.setIfInBounds_toArray, List.set_cons_zero, List.set_cons_succ]
  have c5 := M3.out.c5
  have f5 := M3.out.free 5
  refine readyB_out (i := 15) (by kernel_rfl) (by kernel_rfl) rfl (fun K hK => ?_)
  go_simp
  refine hK.out _ _ ?_
  clear hK K c5 f5 hH
  have N4 := Lib.hid ((M3.out.jw.withS (H3.out.mono (Nat.zero_le _)) (sep_fresh M2.out.note F3.out) (sep_fresh M2.out.slot.row F3.out)).set 5 (.slice a3 T.length k3))
  have G4 := Lib.hid (fun g hg => Nat.le_trans Z2 (F3.out g hg))
  have o4 : Only [p] w3 (w3.setCell ⟨p, 5, none⟩ (.slice a3 T.length k3)) := (Only.refl _ _).setCell (by simp) _
  have O4 := Lib.hid ((O3.out.mono (T := [p]) (by simp)).trans o4 (fun k hk => .inl hk))
  generalize w3.setCell ⟨p, 5, none⟩ (.slice a3 T.length k3) = w4 at N4 o4 O4 ⊢
  refine wpAnyB_done (by kernel_rfl) ?_ _
  clear o4 M3 H3 F3 O3 M2 O2 Z2
  go_wp2_with fail
  have o5 : Only [] w4 w4.drew := (Only.refl [] w4).drew
  have N5 := Lib.hid (N4.out.quiet o5)
  have O5 := Lib.hid (O4.out.trans o5 (by simp))
  clear o5 N4 O4
  have e1 : (offs j.start j.recs).length = j.recs.length := offs_length _ _
  have hI := N5.out.sts.ints
  rw [← e1] at hI htc hcnt
  obtain ⟨bt, hrunt, hbt⟩ := slice_fromI hI htc k (by omega) .i64
  rw [e1] at hrunt hbt hcnt
  have e2 : ((offs j.start j.recs).drop k).length = j.recs.length - k := by rw [List.length_drop, offs_length]
  generalize tc - k = ct at hrunt hbt
  have BT := Lib.hid hbt
  have E2 := Lib.hid e2
  clear hbt e1 e2 hI htc
  refine wp_region_B (S := fun w' => w'.cell? ⟨p, 6, none⟩ = some (.int .i64 j.first) ∧ w'.cell? ⟨p, 7, none⟩ = some (.slice ta j.recs.length tc)) [0, 1, 2, 3, 4, 5, 6, 7, 8, 9, 10, 11, 12, 13, 14] (by kernel_rfl) ⟨N5.out.cell 6, N5.out.cell 7⟩ (fun hH => ?_)
  refine takeB_list (i := 0) (v := ?_) rfl (by kernel_rfl) (by kernel_rfl) (by kernel_rfl) (by kernel_rfl) (fun _ _ _ h => h) (Or.inl ⟨by rfl, ?_⟩) hH ?_
  rotate_left
  · ((intro w hSw; (try dsimp only at hSw); go_simp); try with_reducible rfl)
  simp only [Act.put, List.setIfInBounds_toArray, List.set_cons_zero, List.set_cons_succ]
  refine takeB_list (i := 1) (v := ?_) rfl (by kernel_rfl) (by kernel_rfl) (by kernel_rfl) (by kernel_rfl) (fun _ _ _ h => h) (Or.inl ⟨by rfl, ?_⟩) hH ?_
  rotate_left
  · ((intro w hSw; (try dsimp only at hSw); go_simp); try with_reducible rfl)
  simp only [Act.put, List.setIfInBounds_toArray, List.set_cons_zero, List.set_cons_succ]
  refine takeB_list (i := 2) (v := ?_) rfl (by kernel_rfl) (by kernel_rfl) (by kernel_rfl) (by kernel_rfl) (fun _ _ _ h => h) (Or.inl ⟨by rfl, ?_⟩) hH ?_
  rotate_left
  · ((intro w hSw; (try dsimp only at hSw); go_simp); try with_reducible rfl)
  simp only [Act.put, List.setIfInBounds_toArray, List.set_cons_zero, List.set_cons_succ]
  refine takeB_list (i := 3) (v := ?_) rfl (by kernel_rfl) (by kernel_rfl) (by kernel_rfl) (by kernel_rfl) (fun _ _ _ h => h) (Or.inl ⟨by rfl, ?_⟩) hH ?_
  rotate_left
  · ((intro w hSw; (try dsimp only at hSw); go_simp); try with_reducible rfl)
  simp only [Act.put, List.setIfInBounds_toArray, List.set_cons_zero, List.set_cons_succ]
  refine takeB_list (i := 4) (v := ?_) rfl (by kernel_rfl) (by kernel_rfl) (by kernel_rfl) (by kernel_rfl) (fun _ _ _ h => h) (Or.inl ⟨by rfl, ?_⟩) hH ?_
  rotate_left
  · ((intro w hSw; (try dsimp only at hSw); go_simp); try with_reducible rfl)
  simp only [Act.put, List.setIfInBounds_toArray, List.set_cons_zero, List.set_cons_succ]
  refine takeB_list (i := 5) (v := ?_) rfl (by kernel_rfl) (by kernel_rfl) (by kernel_rfl) (by kernel_rfl) (fun _ _ _ h => h) (Or.inl ⟨by rfl, ?_⟩) hH ?_
  rotate_left
  · ((intro w hSw; (try dsimp only at hSw); go_simp); try with_reducible rfl)
  simp only [Act.put, List.setIfInBounds_toArray, List.set_cons_zero, List.set_cons_succ]
  refine takeB_list (i := 6) (v := ?_) rfl (by kernel_rfl) (by kernel_rfl) (by kernel_rfl) (by kernel_rfl) (fun _ _ _ h => h) (Or.inl ⟨by rfl, ?_⟩) hH ?_
  rotate_left
  · ((intro w hSw; (try dsimp only at hSw); go_simp); try with_reducible rfl)
  simp only [Act.put, List.setIfInBounds_toArray, List.set_cons_zero, List.set_cons_succ]
  refine takeB_list (i := 7) (v := ?_) rfl (by kernel_rfl) (by kernel_rfl) (by kernel_rfl) (by kernel_rfl) (fun _ _ _ h => h) (Or.inl ⟨by rfl, ?_⟩) hH ?_
  rotate_left
  · ((intro w hSw; (try dsimp only at hSw); go_simp); try with_reducible rfl)
  simp only [Act.put, List.setIfInBounds_toArray, List.set_cons_zero, List.set_cons_succ]
  refine takeB_list (i := 8) (v := ?_) rfl (by kernel_rfl) (by kernel_rfl) (by kernel_rfl) (by kernel_rfl) (fun _ _ _ h => h) (Or.inl ⟨by rfl, ?_⟩) hH ?_
  rotate_left
  · ((intro w hSw; (try dsimp only at hSw); go_simp); try with_reducible rfl)
  simp only [Act.put, List.setIfInBounds_toArray, List.set_cons_zero, List.set_cons_succ]
  refine takeB_list (i := 9) (v := ?_) rfl (by kernel_rfl) (by kernel_rfl) (by kernel_rfl) (by kernel_rfl) (fun _ _ _ h => h) (Or.inl ⟨by rfl, ?_⟩) hH ?_
  rotate_left
  · ((intro w hSw; (try dsimp only at hSw); go_simp); try with_reducible rfl)
  simp only [Act.put, List.setIfInBounds_toArray, List.set_cons_zero, List.set_cons_succ]
  refine takeB_list (i := 10) (v := ?_) rfl (by kernel_rfl) (by kernel_rfl) (by kernel_rfl) (by kernel_rfl) (fun _ _ _ h => h) (Or.inl ⟨by rfl, ?_⟩) hH ?_
  rotate_left
  · ((intro w hSw; (try dsimp only at hSw); go_simp); try with_reducible rfl)
  simp only [Act.put, List.setIfInBounds_toArray, List.set_cons_zero, List.set_cons_succ]
  refine takeB_list (i := 11) (v := ?_) rfl (by kernel_rfl) (by kernel_rfl) (by kernel_rfl) (by kernel_rfl) (fun _ _ _ h => h) (Or.inl ⟨by rfl, ?_⟩) hH ?_
  rotate_left
  · ((intro w hSw; (try dsimp only at hSw); go_simp); try with_reducible rfl)
  simp only [Act.put, List.setIfInBounds_toArray, List.set_cons_zero, List.set_cons_succ]
  clear hrunt hw2
  refine readyB_in (i := 12) (by kernel_rfl) rfl (fun K hK => ?_)
  go_simp
  have hcl := cloneI_any _ ((offs j.start j.recs).drop k) w4.drew BT.out (by rw [E2.out]; omega)
  rw [E2.out] at hcl
  refine hcl.mono ?_
  rintro e w6 ⟨a6, k6, rfl, h6, o6⟩
  have N6 := Lib.hid (N5.out.quiet o6)
  have H6 := Lib.hid h6
  have F6 := Lib.hid (fun g hg => (h6.lt (k := g) hg).1)
  have O6 := Lib.hid (O5.out.trans o6 (by simp))
  have Z5 := O5.out.size
  refine hK.out _ _ ⟨N6.out.cell 6, N6.out.cell 7⟩ (fun hH => ?_)
  clear hK K h6 o6 BT hcl
  refine takeB_list (i := 13) (v := ?_) rfl (by kernel_rfl) (by kernel_rfl) (by kernel_rfl) (by kernel_rfl) (fun _ _ _ h => h) (Or.inl ⟨by rfl, ?_⟩) hH ?_
  rotate_left
  · ((intro w hSw; (try dsimp only at hSw); go_simp); try with_reducible rfl)
  simp only [Act.put, List.setIfInBounds_toArray, List.set_cons_zero, List.set_cons_succ]
  refine takeB_list (i := 14) (v := ?_) rfl (by kernel_rfl) (by kernel_rfl) (by kernel_rfl) (by kernel_rfl) (fun _ _ _ h => h) (Or.inl ⟨by rfl, ?_⟩) hH ?_
  rotate_left
  · ((intro w hSw; (try dsimp only at hSw); go_simp); try with_reducible rfl)
  simp only [Act.put, List.setIfInBounds_toArray, List.set_cons_zero, List.set_cons_succ]
  have c7 : w6.cell? ⟨p, 7, none⟩ = some (.slice ta j.recs.length tc) := N6.out.cell 7
  have f7 := N6.out.free 7
  refine readyB_out (i := 15) (by kernel_rfl) (by kernel_rfl) rfl (fun K hK => ?_)
  go_simp
  refine hK.out _ _ ?_
  clear hK K c7 f7 hH
  have N7 := Lib.hid ((N6.out.withT H6.out.zero).set 7 (.slice a6 (j.recs.length - k) k6))
  have G7 := Lib.hid (fun g hg => Nat.le_trans Z5 (F6.out g hg))
  have o7 : Only [p] w6 (w6.setCell ⟨p, 7, none⟩ (.slice a6 (j.recs.length - k) k6)) := (Only.refl _ _).setCell (by simp) _
  have O7 := Lib.hid (O6.out.trans o7 (fun k hk => .inl hk))
  generalize w6.setCell ⟨p, 7, none⟩ (.slice a6 (j.recs.length - k) k6) = w7 at N7 o7 O7 ⊢
  refine wpAnyB_done (by kernel_rfl) ?_ _
  clear o7 N6 H6 F6 O6 N5 O5 Z5
  have c4 : w7.cell? ⟨p, 4, none⟩ = some (.int .i64 j.base) := N7.out.cell 4
  have c6 : w7.cell? ⟨p, 6, none⟩ = some (.int .i64 j.first) := N7.out.cell 6
  have f4 := N7.out.free 4
  have f6 := N7.out.free 6
  go_wp2_with fail
  have N8 := (N7.out.set 4 (.int .i64 (CB : Nat))).set 6 (.int .i64 x)
  have o8 : Only [p] w7 ((w7.setCell ⟨p, 4, none⟩ (.int .i64 (CB : Nat))).setCell ⟨p, 6, none⟩ (.int .i64 x)) := ((Only.refl _ _).setCell (by simp) _).setCell (by simp) _
  go_returns
  refine ⟨rfl, O7.out.trans o8 (fun k hk => .inl hk), _, _, N8.jm (j := j.drop k) ?_ DS2.out.symm ?_ rfl HOK.out ?_ ?_, G4.out, G7.out⟩
  · have e4 : ((j.drop k).base : Int) = (CB : Int) := by rw [← HCB.out]; rfl
    have e6 : ((j.drop k).first : Int) = x := by rw [HX.out]; show ((j.first + k : Nat) : Int) = _; omega
    have e8 : ((j.drop k).first : Int) + ((j.drop k).fl : Int) = (j.first : Int) + (j.fl : Int) := by
      show ((j.first + k : Nat) : Int) + ((j.fl - k : Nat) : Int) = _
      omega
    simp only [jcells]
    rw [e8, e6, e4]
    rfl
  · exact offs_drop _ _ _
  · exact HERE.out
  · exact HAT.out

/-! ### Trim -/
theorem flushR_0 {j : JL} {d : Disk} {s : SL} (h : (j.flushR d s).c = 0) : (j.flushR d s).j = j.all ∧ j.dead = false := by
  cases hd : j.dead
  rotate_left
  · rw [flushR_dead hd] at h
    cases h
  refine ⟨?_, rfl⟩
  cases h2 : d.met.down
  rotate_left
  · rw [flushR_down hd h2] at h
    cases h
  by_cases h3 : j.fl = j.recs.length
  · rw [flushR_none hd h2 h3]
    show j = { j with fl := j.recs.length }
    rw [← h3]
  by_cases h4 : (d.wout j.ps).1 = 0
  rotate_left
  · rw [flushR_cut hd h2 h3 h4] at h
    exact absurd h h4
  by_cases h5 : (j.saveR (d.wout j.ps).2 s 0 j.note).c = 0
  · rw [flushR_yes hd h2 h3 h4 h5]
    have e : decide (s.scode (d.wout j.ps).2 (j.row 0 j.note) ≠ 0) = false := by
      have : s.scode (d.wout j.ps).2 (j.row 0 j.note) = 0 := h5
      simp [this]
    show ({ j with dead := decide (s.scode (d.wout j.ps).2 (j.row 0 j.note) ≠ 0), fl := j.recs.length } : JL) = { j with fl := j.recs.length }
    rw [e, ← hd]
  · rw [flushR_no hd h2 h3 h4 h5] at h
    exact absurd h h5
theorem JBig.all {j : JL} (h : JBig j) : JBig j.all := ⟨h.fin, h.next⟩
def JL.noted (j : JL) (note : Sec) : JL := { j with note := note }
def JL.trimR (j : JL) (d : Disk) (s : SL) (x : Int) (note : Sec) : JR :=
  if j.dead = true then ⟨3, d, j, s⟩ else if x < j.first ∨ (j.next : Int) < x then ⟨1, d, j, s⟩ else if 400 < note.length then ⟨2, d, j, s⟩
  else if (j.flushR d s).c ≠ 0 then j.flushR d s
  else if (j.all.saveR (j.flushR d s).d (j.flushR d s).s (x - j.first).toNat note).c ≠ 0 then j.all.saveR (j.flushR d s).d (j.flushR d s).s (x - j.first).toNat note
  else ⟨0, (j.all.saveR (j.flushR d s).d (j.flushR d s).s (x - j.first).toNat note).d, ((j.all.saveR (j.flushR d s).d (j.flushR d s).s (x - j.first).toNat note).j.drop (x - j.first).toNat).noted note, (j.all.saveR (j.flushR d s).d (j.flushR d s).s (x - j.first).toNat note).s⟩
section
variable {j : JL} {d : Disk} {s : SL} {x : Int} {note : Sec}
theorem trimR_dead (h : j.dead = true) : j.trimR d s x note = ⟨3, d, j, s⟩ := if_pos h
theorem trimR_range (h : j.dead = false) (h2 : x < j.first ∨ (j.next : Int) < x) : j.trimR d s x note = ⟨1, d, j, s⟩ := by unfold JL.trimR; rw [if_neg (by simp [h]), if_pos h2]
theorem trimR_form (h : j.dead = false) (h2 : ¬ (x < j.first ∨ (j.next : Int) < x)) (h3 : 400 < note.length) : j.trimR d s x note = ⟨2, d, j, s⟩ := by unfold JL.trimR; rw [if_neg (by simp [h]), if_neg h2, if_pos h3]
theorem trimR_flush (h : j.dead = false) (h2 : ¬ (x < j.first ∨ (j.next : Int) < x)) (h3 : ¬ 400 < note.length) (h4 : (j.flushR d s).c ≠ 0) : j.trimR d s x note = j.flushR d s := by unfold JL.trimR; rw [if_neg (by simp [h]), if_neg h2, if_neg h3, if_pos h4]
theorem trimR_no (h : j.dead = false) (h2 : ¬ (x < j.first ∨ (j.next : Int) < x)) (h3 : ¬ 400 < note.length) (h4 : (j.flushR d s).c = 0) (h5 : (j.all.saveR (j.flushR d s).d (j.flushR d s).s (x - j.first).toNat note).c ≠ 0) : j.trimR d s x note = j.all.saveR (j.flushR d s).d (j.flushR d s).s (x - j.first).toNat note := by unfold JL.trimR; rw [if_neg (by simp [h]), if_neg h2, if_neg h3, if_neg (by simp [h4]), if_pos h5]
theorem trimR_yes (h : j.dead = false) (h2 : ¬ (x < j.first ∨ (j.next : Int) < x)) (h3 : ¬ 400 < note.length) (h4 : (j.flushR d s).c = 0) (h5 : (j.all.saveR (j.flushR d s).d (j.flushR d s).s (x - j.first).toNat note).c = 0) : j.trimR d s x note = ⟨0, (j.all.saveR (j.flushR d s).d (j.flushR d s).s (x - j.first).toNat note).d, ((j.all.saveR (j.flushR d s).d (j.flushR d s).s (x - j.first).toNat note).j.drop (x - j.first).toNat).noted note, (j.all.saveR (j.flushR d s).d (j.flushR d s).s (x - j.first).toNat note).s⟩ := by unfold JL.trimR; rw [if_neg (by simp [h]), if_neg h2, if_neg h3, if_neg (by simp [h4]), if_neg (fun h6 => h6 h5)]
end
theorem jtrim_nil (x : Int) (nv : Value) (w : World) : Calls Tryz.prog 18 #[.pointer none, .int .i64 x, nv] w fun e w' => e = .returned (err 3) ∧ w = w' := by
  go_enter Tryz.func18, Tryz.ntmps18
  go_wp2_with fail
  refine (jdead_nil _).mono ?_
  rintro e w' ⟨rfl, rfl⟩
  go_wp2_with fail
  go_ret
  exact ⟨rfl, rfl⟩
def TrimPost (w : World) (p q : Nat) (a : DA) (B : List Nat) (r : JR) (e : Ending) (w' : World) : Prop := e = .returned (errV r.c) ∧ JTo w p q a B r.d r.j r.s w'
theorem RPost.to {w w' : World} {p q : Nat} {a : DA} {vs vt vn vr : Value} {d : Disk} {j : JL} {s : SL} {r : JR} {e : Ending} (hm : JM w p q a vs vt vn vr d j s) (h : RPost w p q a vs vt vn vr r e w') : TrimPost w p q a (jbl p q a vs vt vn vr) r e w' := by
  obtain ⟨h1, ⟨vr', m', hv⟩, ho⟩ := h
  exact ⟨h1, JM.to hm m' (ho.mono (fun k hk => jbl_pa hk)) (fun g hg => .inl hg) (fun g hg => .inl hg) (fun g hg => .inl hg) hv⟩
end Go.Proofs.YtfnedeaemjchgaaGreat
/- A journal: Trim, Get. -/
namespace Go.Proofs.YtfnedeaemjchgaaGreat
open Go.RowKit Go.Maps
set_option linter.unusedSimpArgs false
set_option linter.unusedVariables false

theorem saveR_die0 {j : JL} {d : Disk} {s : SL} {k : Nat} {note : Sec} (h : (j.saveR d s k note).c = 0) : (j.saveR d s k note).j = j.die false := by
  have : s.scode d (j.row k note) = 0 := h
  show j.die (decide (s.scode d (j.row k note) ≠ 0)) = _
  rw [this]
  rfl
theorem JOk.noted {j : JL} (h : JOk j) {note : Sec} (hn : note.length ≤ 400) : JOk (j.noted note) := ⟨h.pre, h.fl, h.first, h.recs, h.room, h.n2, h.nm, hn, h.booked, h.at0, h.at1⟩

set_option maxRecDepth 100000 in
set_option maxHeartbeats 4000000 in
theorem jtrim_any {w : World} {p q : Nat} {a : DA} {B : List Nat} {d : Disk} {j : JL} {s : SL} (h : Jn w p q a B d j s) (hb : JBig j) (x : Int) (nv : Value) (note : Sec) (hn : Bytes w nv note) (hoff : Off nv B) (hnl : note.length ≤ 9223372036854775807) :
    Calls Tryz.prog 18 #[.pointer (some ⟨p, 0, none⟩), .int .i64 x, nv] w (TrimPost w p q a B (j.trimR d s x note)) := by
  obtain ⟨vs, vt, vn, vr, hm, rfl⟩ := h
  obtain ⟨na, nc, rfl, -⟩ := id hn
  have M0 := Lib.hid hm
  have HB := Lib.hid hb
  have N0 := Lib.hid hn
  have HOFF := Lib.hid hoff
  have hdead := jdead_any hm
  have q1 := iface_ne
  have q2 := iface_nerr
  have stay : ∀ (w' : World) (c : Int), JM w' p q a vs vt vn vr d j s → Only [] w w' → TrimPost w p q a (jbl p q a vs vt vn vr) ⟨c, d, j, s⟩ (.returned (errV c)) w' := fun w' c m o => ⟨rfl, JTo.same ⟨_, _, _, _, m, rfl⟩ o⟩
  have STAY := Lib.hid stay
  clear stay
  cases hd : j.dead
  rotate_left
  · rw [hd] at hdead
    have F := Lib.hid (show TrimPost w p q a (jbl p q a vs vt vn vr) (j.trimR d s x note) (.returned (err 3)) w from by rw [trimR_dead hd]; exact STAY.out _ _ hm (Only.refl _ _))
    clear hm hb hn hoff hd
    go_enter Tryz.func18, Tryz.ntmps18
    go_wp2_with fail
    refine hdead.mono ?_
    rintro e w' ⟨rfl, rfl⟩
    go_wp2_with fail
    go_ret
    exact F.out
  rw [hd] at hdead
  have HD := Lib.hid hd
  have c6 := hm.c6
  have hnx := hb.next
  by_cases hx1 : x < (j.first : Int)
  · have F := Lib.hid (show TrimPost w p q a (jbl p q a vs vt vn vr) (j.trimR d s x note) (.returned (err 1)) w from by rw [trimR_range hd (.inl hx1)]; exact STAY.out _ _ hm (Only.refl _ _))
    clear hm hb hn hoff hd
    go_enter Tryz.func18, Tryz.ntmps18
    go_wp2_with fail
    refine hdead.mono ?_
    rintro e w' ⟨rfl, rfl⟩
    go_wp2_with fail
    go_ret
    exact F.out
  have hnext := jnext_any hm hb
  by_cases hx2 : (j.next : Int) < x
  · have HR := Lib.hid (trimR_range (d := d) (s := s) (note := note) hd (.inr hx2))
    clear hm hb hn hoff hd
    go_enter Tryz.func18, Tryz.ntmps18
    go_wp2_with fail
    refine hdead.mono ?_
    rintro e w' ⟨rfl, rfl⟩
    go_wp2_with fail
    refine hnext.mono ?_
    rintro e w1 ⟨rfl, hd1⟩
    have F := Lib.hid (show TrimPost w p q a (jbl p q a vs vt vn vr) (j.trimR d s x note) (.returned (err 1)) w1 from by rw [HR.out]; exact STAY.out _ _ (M0.out.quiet hd1.only) hd1.only)
    clear hd1
    go_wp2_with fail
    go_ret
    exact F.out
  have hxx : ¬ (x < (j.first : Int) ∨ (j.next : Int) < x) := by omega
  have HXX := Lib.hid hxx
  by_cases hl : 400 < note.length
  · have HR := Lib.hid (trimR_form (d := d) (s := s) hd hxx hl)
    have hl' : (400 : Int) < (note.length : Int) := by omega
    clear hm hb hn hoff hd hxx
    go_enter Tryz.func18, Tryz.ntmps18
    go_wp2_with fail
    refine hdead.mono ?_
    rintro e w' ⟨rfl, rfl⟩
    go_wp2_with fail
    refine hnext.mono ?_
    rintro e w1 ⟨rfl, hd1⟩
    have F := Lib.hid (show TrimPost w p q a (jbl p q a vs vt vn vr) (j.trimR d s x note) (.returned (err 2)) w1 from by rw [HR.out]; exact STAY.out _ _ (M0.out.quiet hd1.only) hd1.only)
    clear hd1
    go_wp2_with fail
    go_ret
    exact F.out
  have hl' : ¬ (400 : Int) < (note.length : Int) := by omega
  have HL := Lib.hid hl
  have hkl : (x - (j.first : Int)).toNat ≤ j.recs.length := by
    have : j.next = j.first + j.recs.length := rfl
    omega
  have hxk : x = (j.first : Int) + ((x - (j.first : Int)).toNat : Nat) := by omega
  generalize hk : (x - (j.first : Int)).toNat = k at hkl hxk
  have HK := Lib.hid hk
  have HKL := Lib.hid hkl
  have HXK := Lib.hid hxk
  have hpa : Off (.slice na note.length nc) (PA p q a) := fun y n c e h0 hm' => hoff y n c e h0 (jbl_pa hm')
  have HPA := Lib.hid hpa
  clear hm hb hn hoff hd hxx hl hk hkl hxk hpa
  go_enter Tryz.func18, Tryz.ntmps18
  go_wp2_with fail
  refine hdead.mono ?_
  rintro e w' ⟨rfl, rfl⟩
  go_wp2_with fail
  refine hnext.mono ?_
  rintro e w1 ⟨rfl, hd1⟩
  have M1 := Lib.hid (M0.out.quiet hd1.only)
  have N1 := Lib.hid (N0.out.kept hd1.only (clean_nil _))
  have O1 := Lib.hid hd1.only
  clear hd1 N0 hdead hnext c6
  go_wp2_with fail
  clear hx1 hx2 hnx
  refine (jflush_any M1.out HB.out).mono ?_
  rintro e w2 ⟨rfl, ⟨v2, m2, hv2⟩, o2⟩
  have Z1 := O1.out.size
  have M2 := Lib.hid m2
  have V2 := Lib.hid (fun g hg => (hv2 g hg).imp id (fun h => Nat.le_trans Z1 h))
  have N2 := Lib.hid (N1.out.keptOff o2 HPA.out)
  have O2 := Lib.hid ((O1.out.mono (T := PA p q a) (by simp)).trans o2 (fun k hk => .inl hk))
  clear m2 hv2 o2 M1 N1 O1 Z1
  by_cases hc : (j.flushR d s).c = 0
  rotate_left
  · have F := Lib.hid (show TrimPost w p q a (jbl p q a vs vt vn vr) (j.trimR d s x note) (.returned (errV (j.flushR d s).c)) w2 from by
      rw [trimR_flush HD.out HXX.out HL.out hc]
      exact RPost.to M0.out ⟨rfl, ⟨v2, M2.out, V2.out⟩, O2.out⟩)
    rw [errV_nz hc] at F ⊢
    clear hc M2 V2 N2 O2
    go_wp2_with fail
    go_ret
    exact F.out
  rw [errV_z hc]
  have HC := Lib.hid hc
  have e2 := (flushR_0 hc).1
  rw [e2] at M2
  clear hc e2
  generalize hd2 : (j.flushR d s).d = d2 at M2
  generalize hs2 : (j.flushR d s).s = s2 at M2
  have HD2 := Lib.hid hd2
  have HS2 := Lib.hid hs2
  clear hd2 hs2
  go_wp2_with fail
  refine (jsave_any M2.out HB.out.all k HKL.out x HXK.out _ note N2.out (by omega)).mono ?_
  rintro e w3 ⟨rfl, ⟨v3, m3, hv3⟩, o3⟩
  have Z2 := O2.out.size
  have M3 := Lib.hid m3
  have V3 := Lib.hid (show ∀ g, v3.ownBlock = some g → vr.ownBlock = some g ∨ w.heap.size ≤ g from fun g hg => by
    rcases hv3 g hg with e | e
    · exact V2.out g e
    · exact .inr (Nat.le_trans Z2 e))
  have N3 := Lib.hid (N2.out.keptOff o3 HPA.out)
  have O3 := Lib.hid (O2.out.trans o3 (fun k hk => .inl hk))
  clear m3 hv3 o3 M2 N2 O2 Z2 V2
  by_cases hc : (j.all.saveR d2 s2 k note).c = 0
  rotate_left
  · have F := Lib.hid (show TrimPost w p q a (jbl p q a vs vt vn vr) (j.trimR d s x note) (.returned (errV (j.all.saveR d2 s2 k note).c)) w3 from by
      rw [trimR_no HD.out HXX.out HL.out HC.out (by rw [HD2.out, HS2.out, HK.out]; exact hc), HD2.out, HS2.out, HK.out]
      exact RPost.to M0.out ⟨rfl, ⟨v3, M3.out, V3.out⟩, O3.out⟩)
    rw [errV_nz hc] at F ⊢
    clear hc M3 V3 N3 O3
    go_wp2_with fail
    go_ret
    exact F.out
  rw [errV_z hc]
  have HC2 := Lib.hid hc
  rw [saveR_die0 hc] at M3
  clear hc
  go_wp2_with fail
  refine (jdrop_any M3.out (HB.out.all.die _) k HKL.out x HXK.out).mono ?_
  rintro e w4 ⟨rfl, o4, vs4, vt4, m4, hvs4, hvt4⟩
  have Z3 := O3.out.size
  have M4 := Lib.hid m4
  have S4 := Lib.hid (fun g hg => Nat.le_trans Z3 (hvs4 g hg))
  have T4 := Lib.hid (fun g hg => Nat.le_trans Z3 (hvt4 g hg))
  have N4 := Lib.hid (N3.out.keptOff o4 (fun y n c e h0 hm' => HPA.out y n c e h0 (by rw [List.mem_singleton.1 hm']; exact jbl_p_sub)))
  have O4 := Lib.hid (O3.out.trans o4 (fun k hk => .inl (by rw [List.mem_singleton.1 hk]; exact jbl_p_sub)))
  clear m4 hvs4 hvt4 o4 M3 N3 O3 Z3
  go_wp2_with fail
  refine (clone_any _ note w4 N4.out (by omega)).mono ?_
  rintro e w5 ⟨a5, k5, rfl, h5, o5⟩
  have M5 := Lib.hid (M4.out.quiet o5)
  have H5 := Lib.hid h5
  have O5 := Lib.hid (O4.out.trans o5 (by simp))
  have c9 := M5.out.c9
  have f9 := M5.out.free 9
  have Z4 := O4.out.size
  clear h5 o5 N4 O4
  go_wp2_with fail
  have hsep : Sep vs4 (.slice a5 note.length k5) := fun g h1 h2 => by
    have := (M4.out.str.lt h1).2
    have := (H5.out.lt h2).1
    omega
  have N6 := (M5.out.jw.setN H5.out.held hsep).set 9 (.slice a5 note.length k5)
  have o6 : Only [p] w5 (w5.setCell ⟨p, 9, none⟩ (.slice a5 note.length k5)) := (Only.refl _ _).setCell (by simp) _
  go_ret
  rw [trimR_yes HD.out HXX.out HL.out HC.out (by rw [HD2.out, HS2.out, HK.out]; exact HC2.out), HD2.out, HS2.out, HK.out, saveR_die0 HC2.out]
  have hnl' : note.length ≤ 400 := by have := HL.out; omega
  have M6 := N6.jm (j := ((j.all.die false).drop k).noted note) rfl rfl rfl rfl (M5.out.ok.noted hnl') M5.out.here M5.out.at_
  refine ⟨rfl, JM.to M0.out M6 ((O5.out.trans o6 (fun k hk => .inl (by rw [List.mem_singleton.1 hk]; exact jbl_p_sub))).mono (fun k hk => jbl_pa hk)) (fun g hg => .inr (S4.out g hg)) (fun g hg => .inr (T4.out g hg)) (fun g hg => .inr (Nat.le_trans Z4 (H5.out.lt hg).1)) V3.out⟩

/-! ### Get -/
theorem get_stream {j : JL} (h : JOk j) {k : Nat} {r : Sec} (hr : j.recs[k]? = some r) : (j.stream.drop (j.cutP k + 2 - j.base)).take (j.cutP (k + 1) - j.base - (j.cutP k + 2 - j.base)) = r := by
  have hp := h.pre
  have hb : j.base = j.start - j.start % 470 := rfl
  have hc : j.cutP k = j.start + pos j.recs k := rfl
  have hc1 : j.cutP (k + 1) = j.start + pos j.recs (k + 1) := rfl
  have hs := pos_succ hr
  rw [show j.cutP k + 2 - j.base = j.pre.length + (pos j.recs k + 2) by omega, ← List.drop_drop]
  have e1 : j.stream.drop j.pre.length = flat j.recs := by unfold JL.stream; simp
  rw [e1, show j.cutP (k + 1) - j.base - (j.pre.length + (pos j.recs k + 2)) = r.length by omega]
  have e2 := flat_rec hr
  rw [List.take_drop]
  rw [show pos j.recs k + 2 + r.length = pos j.recs (k + 1) by omega]
  exact e2
theorem jget_nil (x : Int) (w : World) : Calls Tryz.prog 30 #[.pointer none, .int .i64 x] w fun e w' => e = .returned (.tuple #[.slice none 0 0, err 6]) ∧ w = w' := by
  by_cases h : x < 0
  · go_enter Tryz.func30, Tryz.ntmps30
    go_wp2_with fail
    refine (jfirst_nil _).mono ?_
    rintro e w' ⟨rfl, rfl⟩
    go_wp2_with fail
    go_ret2
    exact ⟨rfl, rfl⟩
  · go_enter Tryz.func30, Tryz.ntmps30
    go_wp2_with fail
    refine (jfirst_nil _).mono ?_
    rintro e w' ⟨rfl, rfl⟩
    go_wp2_with fail
    refine (jnext_nil _).mono ?_
    rintro e w' ⟨rfl, rfl⟩
    go_wp2_with fail
    go_ret2
    exact ⟨rfl, rfl⟩
theorem jget_no {w : World} {p q : Nat} {a : DA} {vs vt vn vr : Value} {d : Disk} {j : JL} {s : SL} (hm : JM w p q a vs vt vn vr d j s) (hb : JBig j) (x : Int) (hx : x < (j.first : Int) ∨ (j.next : Int) ≤ x) :
    Calls Tryz.prog 30 #[.pointer (some ⟨p, 0, none⟩), .int .i64 x] w fun e w' => e = .returned (.tuple #[.slice none 0 0, err 6]) ∧ Drew w w' := by
  have hfirst := jfirst_any hm
  have hnext := jnext_any hm hb
  clear hm hb
  by_cases h : x < (j.first : Int)
  · go_enter Tryz.func30, Tryz.ntmps30
    go_wp2_with fail
    refine hfirst.mono ?_
    rintro e w' ⟨rfl, rfl⟩
    go_wp2_with fail
    go_ret2
    exact ⟨rfl, Drew.refl _⟩
  · have h2 : (j.next : Int) ≤ x := by omega
    clear hx
    go_enter Tryz.func30, Tryz.ntmps30
    go_wp2_with fail
    refine hfirst.mono ?_
    rintro e w' ⟨rfl, rfl⟩
    go_wp2_with fail
    refine hnext.mono ?_
    rintro e w' ⟨rfl, hd⟩
    have HD := Lib.hid hd
    clear hd
    go_wp2_with fail
    go_ret2
    exact ⟨rfl, HD.out⟩
set_option maxRecDepth 100000 in
set_option maxHeartbeats 1600000 in
theorem jget_yes {w : World} {p q : Nat} {a : DA} {vs vt vn vr : Value} {d : Disk} {j : JL} {s : SL} (hm : JM w p q a vs vt vn vr d j s) (hb : JBig j) (k : Nat) (r : Sec) (hr : j.recs[k]? = some r) (x : Int) (hx : x = (j.first : Int) + k) :
    Calls Tryz.prog 30 #[.pointer (some ⟨p, 0, none⟩), .int .i64 x] w fun e w' => ∃ b c, e = .returned (.tuple #[.slice b r.length c, .nilIface]) ∧ Own w' w.heap.size (.slice b r.length c) r ∧ Only [] w w' := by
  have hk := (List.getElem?_eq_some_iff.1 hr).1
  have M0 := Lib.hid hm
  have HB := Lib.hid hb
  have hfirst := jfirst_any hm
  have hnext := jnext_any hm hb
  have hnx := hb.next
  have enx : (j.next : Int) = (j.first : Int) + (j.recs.length : Int) := by unfold JL.next; omega
  have hx1 : ¬ x < (j.first : Int) := by omega
  have hx2 : ¬ (j.next : Int) ≤ x := by omega
  have hx3 : x + 1 ≤ 1152921504606846976 := by omega
  have hx4 : 0 ≤ x := by omega
  have HX := Lib.hid hx
  have HX1 := Lib.hid (show x + 1 = (j.first : Int) + ((k + 1 : Nat) : Int) by omega)
  have hcp : j.cutP k = j.start + pos j.recs k := rfl
  have hcp1 : j.cutP (k + 1) = j.start + pos j.recs (k + 1) := rfl
  have hbb : j.base = j.start - j.start % 470 := rfl
  have hps := pos_succ hr
  have hpl := pos_le j.recs (k + 1)
  have hsl := hm.ok.stream
  have hlen := hm.ok.len
  have hbig := hb.row (k := k + 1) (by omega)
  have hgs := get_stream hm.ok hr
  have hrl := (hm.ok.recs r (List.mem_of_getElem? hr)).2
  obtain ⟨sa, sc, rfl, hsc⟩ := hm.strS
  obtain ⟨bb, hrun, hbytes⟩ := slice_mid hm.str.bytes hsc (j.cutP k + 2 - j.base) (j.cutP (k + 1) - j.base) (by omega) (by omega) .i64 .i64
  rw [hgs] at hbytes
  have er : j.cutP (k + 1) - j.base - (j.cutP k + 2 - j.base) = r.length := by omega
  rw [er] at hbytes hrun
  have hi : ((j.cutP k : Nat) : Int) + 2 - (j.base : Int) = ((j.cutP k + 2 - j.base : Nat) : Int) := by omega
  have hj : ((j.cutP (k + 1) : Nat) : Int) - (j.base : Int) = ((j.cutP (k + 1) - j.base : Nat) : Int) := by omega
  have hb1 : j.cutP (k + 1) ≤ 1152921504606846976 := by omega
  have hb0 : j.cutP k ≤ 1152921504606846976 := by omega
  have hb2 : j.base ≤ 1152921504606846976 := by omega
  have hij : j.cutP (k + 1) - j.base ≤ 962560 := by omega
  have hii : j.cutP k + 2 - j.base ≤ 962560 := by omega
  have o0 := joffset_any hm hb k (by omega) x hx
  rw [← hcp] at o0
  have HCP1 := Lib.hid hcp1
  clear hm hb hx hcp hcp1 hbb hps hpl hsl hbig hgs er enx
  generalize sc - (j.cutP k + 2 - j.base) = cb at hrun hbytes
  generalize j.cutP k + 2 - j.base = i0 at hrun hbytes hi hii
  generalize j.cutP (k + 1) - j.base = i1 at hrun hbytes hj hij
  have BY := Lib.hid hbytes
  have HI := Lib.hid hi
  have HJ := Lib.hid hj
  clear hbytes hi hj
  have w1 : IntKind.i64.wrap (((j.cutP k : Nat) : Int) + 2 - (j.base : Int)) = (i0 : Int) := by
    rw [IntKind.wrap_i64]
    have := HI.out
    omega
  have w2 : IntKind.i64.wrap (((j.cutP (k + 1) : Nat) : Int) - (j.base : Int)) = (i1 : Int) := by
    rw [IntKind.wrap_i64]
    have := HJ.out
    omega
  go_enter Tryz.func30, Tryz.ntmps30
  go_wp2_with fail
  refine hfirst.mono ?_
  rintro e w' ⟨rfl, rfl⟩
  go_wp2_with fail
  refine hnext.mono ?_
  rintro e w3 ⟨rfl, hd3⟩
  have M3 := Lib.hid (M0.out.quiet hd3.only)
  have B3 := Lib.hid (BY.out.kept hd3.only (clean_nil _))
  have O3 := Lib.hid hd3.only
  clear hd3 M0 BY hfirst hnext o0
  go_wp2_with fail
  refine (joffset_any M3.out HB.out k (by omega) x HX.out).mono ?_
  rintro e w4 ⟨rfl, hd4⟩
  have M4 := Lib.hid (M3.out.quiet hd4.only)
  have B4 := Lib.hid (B3.out.kept hd4.only (clean_nil _))
  have O4 := Lib.hid (O3.out.trans hd4.only (by simp))
  rw [show j.start + pos j.recs k = j.cutP k from rfl]
  clear hd4 M3 B3 O3
  go_wp2_with fail
  refine (joffset_any M4.out HB.out (k + 1) (by omega) (x + 1) HX1.out).mono ?_
  rintro e w5 ⟨rfl, hd5⟩
  have M5 := Lib.hid (M4.out.quiet hd5.only)
  have B5 := Lib.hid (B4.out.kept hd5.only (clean_nil _))
  have O5 := Lib.hid (O4.out.trans hd5.only (by simp))
  rw [← HCP1.out]
  clear hd5 M4 B4 O4
  go_wp2_with fail
  have o6 : Only [] w5 w5.drew := (Only.refl [] w5).drew
  have M6 := Lib.hid (M5.out.quiet o6)
  have B6 := Lib.hid (B5.out.kept o6 (clean_nil _))
  have O6 := Lib.hid (O5.out.trans o6 (by simp))
  clear o6 M5 B5 O5
  refine wp_region_held_drew (S := fun w' => w'.cell? ⟨p, 4, none⟩ = some (.int .i64 j.base) ∧ w'.cell? ⟨p, 5, none⟩ = some (.slice sa j.stream.length sc)) (by kernel_rfl) ⟨M6.out.c4, M6.out.c5⟩ (fun hH => ?_)
  refine take_list (i := 0) (v := ?_) rfl (by kernel_rfl) (by kernel_rfl) (by kernel_rfl) (fun _ _ _ h => h) (Or.inl ⟨by rfl, ?_⟩) hH ?_
  rotate_left
  · ((intro w hSw; (try dsimp only at hSw); go_simp); try with_reducible rfl)
  simp only [Act.put, List.setIfInBounds_toArray, List.set_cons_zero, List.set_cons_succ]
  refine take_list (i := 1) (v := ?_) rfl (by kernel_rfl) (by kernel_rfl) (by kernel_rfl) (fun _ _ _ h => h) (Or.inl ⟨by rfl, ?_⟩) hH ?_
  rotate_left
  · ((intro w hSw; (try dsimp only at hSw); go_simp); try with_reducible rfl)
  simp only [Act.put, List.setIfInBounds_toArray, List.set_cons_zero, List.set_cons_succ]
  refine take_list (i := 2) (v := ?_) rfl (by kernel_rfl) (by kernel_rfl) (by kernel_rfl) (fun _ _ _ h => h) (Or.inl ⟨by rfl, ?_⟩) hH ?_
  rotate_left
  · ((intro w hSw; (try dsimp only at hSw); go_simp); try with_reducible rfl)
  simp only [Act.put, List.setIfInBounds_toArray, List.set_cons_zero, List.set_cons_succ]
  refine take_list (i := 3) (v := ?_) rfl (by kernel_rfl) (by kernel_rfl) (by kernel_rfl) (fun _ _ _ h => h) (Or.inl ⟨by rfl, ?_⟩) hH ?_
  rotate_left
  · ((intro w hSw; (try dsimp only at hSw); go_simp); try with_reducible rfl)
  simp only [Act.put, List.setIfInBounds_toArray, List.set_cons_zero, List.set_cons_succ]
  refine take_list (i := 4) (v := ?_) rfl (by kernel_rfl) (by kernel_rfl) (by kernel_rfl) (fun _ _ _ h => h) (Or.inl ⟨by rfl, ?_⟩) hH ?_
  rotate_left
  · ((intro w hSw; (try dsimp only at hSw); go_simp); try with_reducible rfl)
  simp only [Act.put, List.setIfInBounds_toArray, List.set_cons_zero, List.set_cons_succ]
  refine take_list (i := 5) (v := ?_) rfl (by kernel_rfl) (by kernel_rfl) (by kernel_rfl) (fun _ _ _ h => h) (Or.inl ⟨by rfl, ?_⟩) hH ?_
  rotate_left
  · ((intro w hSw; (try dsimp only at hSw); go_simp); try with_reducible rfl)
  simp only [Act.put, List.setIfInBounds_toArray, List.set_cons_zero, List.set_cons_succ]
  refine take_list (i := 6) (v := ?_) rfl (by kernel_rfl) (by kernel_rfl) (by kernel_rfl) (fun _ _ _ h => h) (Or.inl ⟨by rfl, ?_⟩) hH ?_
  rotate_left
  · ((intro w hSw; (try dsimp only at hSw); go_simp); try with_reducible rfl)
  simp only [Act.put, List.setIfInBounds_toArray, List.set_cons_zero, List.set_cons_succ]
  refine take_list (i := 7) (v := ?_) rfl (by kernel_rfl) (by kernel_rfl) (by kernel_rfl) (fun _ _ _ h => h) (Or.inl ⟨by rfl, ?_⟩) hH ?_
  rotate_left
  · ((intro w hSw; (try dsimp only at hSw); go_simp); try with_reducible rfl)
  simp only [Act.put, List.setIfInBounds_toArray, List.set_cons_zero, List.set_cons_succ]
  refine take_list (i := 8) (v := ?_) rfl (by kernel_rfl) (by kernel_rfl) (by kernel_rfl) (fun _ _ _ h => h) (Or.inl ⟨by rfl, ?_⟩) hH ?_
  rotate_left
  · ((intro w hSw; (try dsimp only at hSw); go_simp); try with_reducible rfl)
  simp only [Act.put, List.setIfInBounds_toArray, List.set_cons_zero, List.set_cons_succ]
  refine take_list (i := 9) (v := ?_) rfl (by kernel_rfl) (by kernel_rfl) (by kernel_rfl) (fun _ _ _ h => h) (Or.inl ⟨by rfl, ?_⟩) hH ?_
  rotate_left
  · ((intro w hSw; (try dsimp only at hSw); go_simp); try with_reducible rfl)
  simp only [Act.put, List.setIfInBounds_toArray, List.set_cons_zero, List.set_cons_succ]
  refine take_list (i := 10) (v := ?_) rfl (by kernel_rfl) (by kernel_rfl) (by kernel_rfl) (fun _ _ _ h => h) (Or.inl ⟨by rfl, ?_⟩) hH ?_
  rotate_left
  · ((intro w hSw; (try dsimp only at hSw); go_simp); try with_reducible rfl)
  simp only [Act.put, List.setIfInBounds_toArray, List.set_cons_zero, List.set_cons_succ]
  refine take_list (i := 11) (v := ?_) rfl (by kernel_rfl) (by kernel_rfl) (by kernel_rfl) (fun _ _ _ h => h) (Or.inl ⟨by rfl, ?_⟩) hH ?_
  rotate_left
  · ((intro w hSw; (try dsimp only at hSw); go_simp); try with_reducible rfl)
  simp only [Act.put, List.setIfInBounds_toArray, List.set_cons_zero, List.set_cons_succ]
  refine take_list (i := 12) (v := ?_) rfl (by kernel_rfl) (by kernel_rfl) (by kernel_rfl) (fun _ _ _ h => h) (Or.inl ⟨by rfl, ?_⟩) hH ?_
  rotate_left
  · ((intro w hSw; (try dsimp only at hSw); go_simp); try with_reducible rfl)
  simp only [Act.put, List.setIfInBounds_toArray, List.set_cons_zero, List.set_cons_succ]
  refine take_list (i := 13) (v := ?_) rfl (by kernel_rfl) (by kernel_rfl) (by kernel_rfl) (fun _ _ _ h => h) (Or.inl ⟨by rfl, ?_⟩) hH ?_
  rotate_left
  · ((intro w hSw; (try dsimp only at hSw); go_simp); try with_reducible rfl)
  simp only [Act.put, List.setIfInBounds_toArray, List.set_cons_zero, List.set_cons_succ]
  refine take_list (i := 14) (v := ?_) rfl (by kernel_rfl) (by kernel_rfl) (by kernel_rfl) (fun _ _ _ h => h) (Or.inl ⟨by rfl, ?_⟩) hH ?_
  rotate_left
  · ((intro w hSw; (try dsimp only at hSw); go_simp); try with_reducible rfl)
  simp only [Act.put, List.setIfInBounds_toArray, List.set_cons_zero, List.set_cons_succ]
  refine take_list (i := 15) (v := ?_) rfl (by kernel_rfl) (by kernel_rfl) (by kernel_rfl) (fun _ _ _ h => h) (Or.inl ⟨by rfl, ?_⟩) hH ?_
  rotate_left
  · ((intro w hSw; (try dsimp only at hSw); go_simp); try with_reducible rfl)
  simp only [Act.put, List.setIfInBounds_toArray, List.set_cons_zero, List.set_cons_succ]
  refine take_list (i := 16) (v := ?_) rfl (by kernel_rfl) (by kernel_rfl) (by kernel_rfl) (fun _ _ _ h => h) (Or.inl ⟨by rfl, ?_⟩) hH ?_
  rotate_left
  · ((intro w hSw; (try dsimp only at hSw); go_simp); try with_reducible rfl)
  simp only [Act.put, List.setIfInBounds_toArray, List.set_cons_zero, List.set_cons_succ]
  refine wpAnyH_ready (rs := [17]) (by kernel_rfl) (by simp) ?_
  refine ready_list rfl (fun K hK => ?_)
  go_simp
  refine (clone_any _ r w5.drew B6.out (by omega)).mono ?_
  rintro e w7 ⟨a7, k7, rfl, h7, o7⟩
  have F := Lib.hid (And.intro (h7.mono (base' := w.heap.size) O6.out.size) (O6.out.trans o7 (by simp)))
  have M7 := M6.out.quiet o7
  refine hK.out _ _ ⟨M7.c4, M7.c5⟩ (fun hH => ?_)
  clear hK K h7 o7 M7 M6 B6 O6
  refine take_list (i := 18) (v := ?_) rfl (by kernel_rfl) (by kernel_rfl) (by kernel_rfl) (fun _ _ _ h => h) (Or.inl ⟨by rfl, ?_⟩) hH ?_
  rotate_left
  · ((intro w hSw; (try dsimp only at hSw); go_simp); try with_reducible rfl)
  simp only [Act.put, List.setIfInBounds_toArray, List.set_cons_zero, List.set_cons_succ]
  refine take_list (i := 19) (v := ?_) rfl (by kernel_rfl) (by kernel_rfl) (by kernel_rfl) (fun _ _ _ h => h) (Or.inl ⟨by rfl, ?_⟩) hH ?_
  rotate_left
  · ((intro w hSw; (try dsimp only at hSw); go_simp); try with_reducible rfl)
  simp only [Act.put, List.setIfInBounds_toArray, List.set_cons_zero, List.set_cons_succ]
  refine wpAnyH_done (by kernel_rfl) ?_ _
  clear hH
  go_wp2_with fail
  go_ret2
  exact ⟨a7, k7, rfl, F.out.1, F.out.2⟩
end Go.Proofs.YtfnedeaemjchgaaGreat
/- A journal: fits, Format. -/
namespace Go.Proofs.YtfnedeaemjchgaaGreat
open Go.RowKit Go.Maps
set_option linter.unusedSimpArgs false
set_option linter.unusedVariables false

def jfitB (at_ n size : Int) : Bool := decide (0 ≤ at_) && decide (2 ≤ n) && decide (n ≤ 2048) && decide (at_ ≤ size - 2 - n)
theorem jfitB_iff {at_ n size : Int} : jfitB at_ n size = true ↔ 0 ≤ at_ ∧ 2 ≤ n ∧ n ≤ 2048 ∧ at_ ≤ size - 2 - n := by
  simp [jfitB, and_assoc]
theorem jfitB_no {at_ n size : Int} (h : ¬ (0 ≤ at_ ∧ 2 ≤ n ∧ n ≤ 2048 ∧ at_ ≤ size - 2 - n)) : jfitB at_ n size = false := by
  cases hb : jfitB at_ n size
  · rfl
  · exact absurd (jfitB_iff.1 hb) h
theorem jfits_nil (at_ n : Int) (w : World) : Calls Tryz.prog 44 #[.pointer none, .int .i64 at_, .int .i64 n] w fun e w' => e = .returned (.bool (jfitB at_ n 0)) ∧ w = w' := by
  by_cases h0 : 0 ≤ at_
  rotate_left
  · have h0' : at_ < 0 := by omega
    go_enter Tryz.func44, Tryz.ntmps44
    go_wp2_with fail
    go_ret
    exact ⟨ret_bool (jfitB_no (by omega)).symm, rfl⟩
  by_cases h1 : 2 ≤ n
  rotate_left
  · have h1' : n < 2 := by omega
    go_enter Tryz.func44, Tryz.ntmps44
    go_wp2_with fail
    go_ret
    exact ⟨ret_bool (jfitB_no (by omega)).symm, rfl⟩
  by_cases h2 : n ≤ 2048
  rotate_left
  · have h2' : 2048 < n := by omega
    go_enter Tryz.func44, Tryz.ntmps44
    go_wp2_with fail
    go_ret
    exact ⟨ret_bool (jfitB_no (by omega)).symm, rfl⟩
  go_enter Tryz.func44, Tryz.ntmps44
  go_wp2_with fail
  refine (size_nil _).mono ?_
  rintro e w' ⟨rfl, rfl⟩
  go_wp2_with fail
  go_ret
  exact ⟨ret_bool (by simp [jfitB]; omega), rfl⟩
theorem jfits_dev (a : DA) (d : Disk) (at_ n : Int) (w : World) (h : Dev w a d) : Calls Tryz.prog 44 #[.pointer (some ⟨a.p, 0, none⟩), .int .i64 at_, .int .i64 n] w fun e w' => e = .returned (.bool (jfitB at_ n d.size)) ∧ w = w' := by
  have hlo := h.lo
  have hhi := h.hi
  by_cases h0 : 0 ≤ at_
  rotate_left
  · have h0' : at_ < 0 := by omega
    go_enter Tryz.func44, Tryz.ntmps44
    go_wp2_with fail
    go_ret
    exact ⟨ret_bool (jfitB_no (by omega)).symm, rfl⟩
  by_cases h1 : 2 ≤ n
  rotate_left
  · have h1' : n < 2 := by omega
    go_enter Tryz.func44, Tryz.ntmps44
    go_wp2_with fail
    go_ret
    exact ⟨ret_bool (jfitB_no (by omega)).symm, rfl⟩
  by_cases h2 : n ≤ 2048
  rotate_left
  · have h2' : 2048 < n := by omega
    go_enter Tryz.func44, Tryz.ntmps44
    go_wp2_with fail
    go_ret
    exact ⟨ret_bool (jfitB_no (by omega)).symm, rfl⟩
  have hs := size_any _ _ _ _ _ _ h.blk
  clear h
  generalize d.size = z at *
  go_enter Tryz.func44, Tryz.ntmps44
  go_wp2_with fail
  refine hs.mono ?_
  rintro e w' ⟨rfl, rfl⟩
  go_wp2_with fail
  go_ret
  exact ⟨ret_bool (by simp [jfitB, h0, h1, h2]), rfl⟩

/-- A new journal. -/
def JL.new (at_ : Int) (n : Nat) : JL := ⟨at_, n, 1, 0, [], [], 0, [], 0, false⟩
theorem JOk.new {at_ : Int} {n : Nat} (h0 : 0 ≤ at_) (h1 : 2 ≤ n) (h2 : n ≤ 2048) (h3 : at_ + 2 + n ≤ 4096) : JOk (JL.new at_ n) :=
  ⟨rfl, Nat.le_refl _, Nat.le_refl _, by simp [JL.new], by simp [JL.new, JL.stream, flat], h1, h2, by simp [JL.new], by simp [JL.new], h0, h3⟩
def freshCells (a : DA) (at_ : Int) (n : Nat) : Array Value :=
  #[.pointer (some ⟨a.p, 0, none⟩), .int .i64 (at_ + 2), .int .i64 n, .pointer none, .int .i64 0, .slice none 0 0, .int .i64 1, .slice none 0 0, .int .i64 1, .slice none 0 0, .int .i64 0, .bool false]
def row0 : Sec := nums [1, 0, 0]
theorem row0_len : row0.length ≤ 30 := nums_30 (by omega) (by omega) (by omega)
section
variable {w : World} {p : Nat} {a : DA} {at_ : Int} {n : Nat} (h : w.heap[p]? = some (.cells (freshCells a at_ n) 84 (0, 0)))
include h
theorem jnext_fresh : Calls Tryz.prog 20 #[.pointer (some ⟨p, 0, none⟩)] w fun e w' => e = .returned (.int .i64 1) ∧ Drew w w' := by
  have c6 : w.cell? ⟨p, 6, none⟩ = some (.int .i64 1) := cell_at 6 h
  have c7 : w.cell? ⟨p, 7, none⟩ = some (.slice none 0 0) := cell_at 7 h
  clear h
  go_enter Tryz.func20, Tryz.ntmps20
  go_wp2_with fail
  go_quiet (fail)
  go_wp2_with fail
  go_ret
  exact ⟨rfl, _, rfl⟩
theorem jend_fresh : Calls Tryz.prog 52 #[.pointer (some ⟨p, 0, none⟩)] w fun e w' => e = .returned (.int .i64 0) ∧ Drew w w' := by
  have c4 : w.cell? ⟨p, 4, none⟩ = some (.int .i64 0) := cell_at 4 h
  have c5 : w.cell? ⟨p, 5, none⟩ = some (.slice none 0 0) := cell_at 5 h
  clear h
  go_enter Tryz.func52, Tryz.ntmps52
  go_wp2_with fail
  go_quiet (fail)
  go_wp2_with fail
  go_ret
  exact ⟨rfl, _, rfl⟩
theorem joffset_fresh : Calls Tryz.prog 50 #[.pointer (some ⟨p, 0, none⟩), .int .i64 1] w fun e w' => e = .returned (.int .i64 0) ∧ Drew w w' := by
  have H := Lib.hid h
  clear h
  go_enter Tryz.func50, Tryz.ntmps50
  go_wp2_with fail
  refine (jnext_fresh H.out).mono ?_
  rintro e w1 ⟨rfl, hd⟩
  have HD := Lib.hid hd
  have H1 := Lib.hid (hd.only.heap H.out (by simp))
  clear hd
  go_wp2_with fail
  refine (jend_fresh H1.out).mono ?_
  rintro e w2 ⟨rfl, hd2⟩
  have HD2 := Lib.hid hd2
  clear hd2
  go_wp2_with fail
  go_ret
  obtain ⟨n1, e1⟩ := HD.out
  obtain ⟨n2, e2⟩ := HD2.out
  exact ⟨rfl, n1 + n2, by rw [e2, e1, World.drewN_drewN]⟩
set_option maxRecDepth 100000 in
theorem jrow_fresh : Calls Tryz.prog 46 #[.pointer (some ⟨p, 0, none⟩), .int .i64 1, .slice none 0 0] w fun e w' => ∃ b c, e = .returned (.slice b row0.length c) ∧ Own w' w.heap.size (.slice b row0.length c) row0 ∧ Only [] w w' := by
  have H := Lib.hid h
  have h30 := row0_len
  clear h
  go_enter Tryz.func46, Tryz.ntmps46
  go_wp2_with fail
  refine (joffset_fresh H.out).mono ?_
  rintro e w1 ⟨rfl, hd⟩
  have O1 := Lib.hid hd.only
  have H1 := Lib.hid (hd.only.heap H.out (by simp))
  clear hd H
  go_wp2_with fail
  refine (jend_fresh H1.out).mono ?_
  rintro e w2 ⟨rfl, hd2⟩
  have O2 := Lib.hid (O1.out.trans hd2.only (by simp))
  clear hd2 O1 H1
  go_wp2_with fail
  have o3 := (Only.refl [] w2).alloc (.cells #[.int .i64 1, .int .i64 0, .int .i64 0] 3)
  have I3 := Lib.hid (ints_three w2 1 0 0 (by decide) (by decide) (by decide))
  refine (Put_any (.slice none 0 0) [] _ [1, 0, 0] _ (bytes_nil _ _) I3.out (by simp) (by simp)).mono ?_
  rintro e w4 ⟨a4, k4, rfl, h4, o4⟩
  simp only [List.nil_append, List.length_nil, Nat.zero_add] at h4 ⊢
  rw [show nums [1, 0, 0] = row0 from rfl] at h4 ⊢
  have O4 := Lib.hid ((O2.out.trans o3 (by simp)).trans o4 (by simp))
  have H4 := Lib.hid (h4.mono (base' := w.heap.size) (Nat.le_trans O2.out.size (by simp)))
  have Z4 := O4.out.size
  clear h4 o4 o3 I3 O2
  go_wp2_with (
    refine wpList_append_any rfl (.tmp 14) (.tmp 15) rfl w.heap.size _ row0 (by rfl) H4.out _ [] (by rfl) (bytes_nil _ _) row0.length rfl row0 (List.append_nil _) (by omega) Z4 ?_
    intro a5 k5 w5 h5 x5
    have F := Lib.hid (And.intro h5 (Ext.fresh O4.out H4.out (Nat.le_refl _) x5))
    clear h5 x5 H4 O4)
  go_ret
  exact ⟨_, _, rfl, F.out.1, F.out.2⟩
end

/-- What Format, Open answer: a journal, or an error. -/
structure JMade (w : World) (a : DA) (d' : Disk) (j : JL) (s : SL) (c : Int) (e : Ending) (w' : World) : Prop where
  dev : Dev w' a d'
  only : Only a.bl w w'
  yes : c = 0 → ∃ p q B, e = .returned (.tuple #[.pointer (some ⟨p, 0, none⟩), .nilIface]) ∧ Jn w' p q a B d' j s ∧ ∀ k ∈ B, k ∈ a.bl ∨ w.heap.size ≤ k
  no : c ≠ 0 → e = .returned (.tuple #[.pointer none, err c])
def Disk.jcode (d : Disk) (at_ n : Int) : Int := if jfitB at_ n d.size = false then 1 else d.fcode at_ row0
def Disk.jfm (d : Disk) (at_ n : Int) : Disk := if jfitB at_ n d.size = false then d else d.fm at_ row0
theorem jformat_nil (at_ n : Int) (w : World) : Calls Tryz.prog 15 #[.pointer none, .int .i64 at_, .int .i64 n] w fun e w' => e = .returned (.tuple #[.pointer none, err 1]) ∧ w = w' := by
  have hf := jfits_nil at_ n w
  rw [jfitB_no (by omega)] at hf
  go_enter Tryz.func15, Tryz.ntmps15
  go_wp2_with fail
  refine hf.mono ?_
  rintro e w' ⟨rfl, rfl⟩
  go_wp2_with fail
  go_ret2
  exact ⟨rfl, rfl⟩
set_option maxRecDepth 100000 in
set_option maxHeartbeats 4000000 in
theorem jformat_any {w : World} {a : DA} {d : Disk} (at_ : Int) (n : Nat) (hd : Dev w a d) :
    Calls Tryz.prog 15 #[.pointer (some ⟨a.p, 0, none⟩), .int .i64 at_, .int .i64 n] w (JMade w a (d.jfm at_ n) (JL.new at_ n) ⟨at_, 1, row0, false⟩ (d.jcode at_ n)) := by
  have hf := jfits_dev a d at_ n w hd
  have hhi := hd.hi
  have q1 := iface_ne
  have q2 := iface_nerr
  have HD := Lib.hid hd
  cases hb : jfitB at_ n d.size
  · rw [hb] at hf
    have e1 : d.jcode at_ n = 1 := by unfold Disk.jcode; rw [hb]; rfl
    have e2 : d.jfm at_ n = d := by unfold Disk.jfm; rw [hb]; rfl
    have E1 := Lib.hid e1
    have E2 := Lib.hid e2
    clear hd hb e1 e2
    go_enter Tryz.func15, Tryz.ntmps15
    go_wp2_with fail
    refine hf.mono ?_
    rintro e w' ⟨rfl, rfl⟩
    go_wp2_with fail
    go_ret2
    exact ⟨by rw [E2.out]; exact HD.out, Only.refl _ _, (fun h => by rw [E1.out] at h; cases h), (fun _ => by rw [E1.out]; rfl)⟩
  rw [hb] at hf
  obtain ⟨f0, f1, f2, f3⟩ := jfitB_iff.1 hb
  have e1 : d.jcode at_ n = d.fcode at_ row0 := by unfold Disk.jcode; rw [hb]; rfl
  have e2 : d.jfm at_ n = d.fm at_ row0 := by unfold Disk.jfm; rw [hb]; rfl
  have E1 := Lib.hid e1
  have E2 := Lib.hid e2
  have h30 := row0_len
  clear hd hb e1 e2
  go_enter Tryz.func15, Tryz.ntmps15
  go_wp2_with fail
  refine hf.mono ?_
  rintro e w' ⟨rfl, rfl⟩
  go_wp2_with fail
  have o1 : Only [] w (w.alloc (.cells (freshCells a at_ n) 84)) := (Only.refl [] w).alloc _
  have B1 : (w.alloc (.cells (freshCells a at_ n) 84)).heap[w.heap.size]? = some (.cells (freshCells a at_ n) 84 (0, 0)) := heap_new w _
  have D1 := Lib.hid (HD.out.kept o1 (by simp))
  have HB1 := Lib.hid B1
  have O1 := Lib.hid o1
  clear B1 o1 HD hf
  refine (jrow_fresh HB1.out).mono ?_
  rintro e w2 ⟨b2, k2, rfl, h2, o2⟩
  have D2 := Lib.hid (D1.out.kept o2 (by simp))
  have R2 := Lib.hid h2.bytes
  have HB2 := Lib.hid (o2.heap HB1.out (by simp))
  have O2 := Lib.hid (O1.out.trans o2 (by simp))
  have ZP := Lib.hid (lt_of_heap HB2.out)
  generalize hg : w.heap.size = g at HB1 HB2 ZP ⊢
  have HG := Lib.hid hg
  clear h2 o2 D1 HB1 O1 hg
  go_wp2_with fail
  refine (Format_any at_ _ row0 D2.out R2.out (by omega)).mono ?_
  rintro e w3 ⟨d3, o3, hy, hn⟩
  have HB3 := Lib.hid (o3.heap HB2.out (D2.out.off_ty HB2.out (by decide)))
  have D3 := Lib.hid d3
  have O3 := Lib.hid ((O2.out.mono (T := a.bl) (by simp)).trans o3 (fun k hk => .inl hk))
  have Z2 := Lib.hid O2.out.size
  by_cases hc : d.fcode at_ row0 = 0
  rotate_left
  · rw [hn hc]
    have HC := Lib.hid hc
    clear hc hy hn d3 o3 HB2 D2 R2 O2 ZP
    go_wp2_with fail
    go_ret2
    exact ⟨by rw [E2.out]; exact D3.out, O3.out, (fun h => absurd (E1.out.symm.trans h) HC.out), (fun _ => by rw [E1.out]; rfl)⟩
  obtain ⟨q, vr, rfl, s3, hq, hvr⟩ := hy hc
  have S3 := Lib.hid s3
  have HQ := Lib.hid hq
  have HVR := Lib.hid hvr
  have HC := Lib.hid (E1.out.trans hc)
  have c3 : w3.cell? ⟨g, 3, none⟩ = some (.pointer none) := cell_at 3 HB3.out
  have f3 := free_at 3 HB3.out
  have hne : g ≠ q := by have := ZP.out; omega
  have HNE := Lib.hid hne
  clear hc hy hn d3 o3 s3 hq hvr HB2 D2 R2 O2 hne
  go_wp2_with fail
  have hk := heap_cell (i := 3) (.pointer (some ⟨q, 0, none⟩)) HB3.out
  have o4 : Only [g] w3 (w3.setCell ⟨g, 3, none⟩ (.pointer (some ⟨q, 0, none⟩))) := (Only.refl _ _).setCell (by simp) _
  have O4 : Only a.bl w (w3.setCell ⟨g, 3, none⟩ (.pointer (some ⟨q, 0, none⟩))) := O3.out.trans o4 (fun k hk => .inr (by rw [List.mem_singleton.1 hk, HG.out]; exact Nat.le_refl _))
  have D4 := D3.out.kept o4 (fun k hk => by rw [List.mem_singleton.1 hk]; exact D3.out.off_ty HB3.out (by decide))
  have S4 := S3.out.kept o4 (by simpa using HNE.out.symm) (fun k hk e => by
    rw [List.mem_singleton.1 hk] at e
    exact absurd (Held.u8 S3.out.row e HB3.out) (by decide))
  have hvrw : ∀ x, vr.ownBlock = some x → w.heap.size ≤ x := fun x hx => Nat.le_trans Z2.out (HVR.out x hx)
  go_ret2
  refine ⟨by rw [E2.out]; exact D4, O4, fun _ => ⟨g, q, jbl g q a (.slice none 0 0) (.slice none 0 0) (.slice none 0 0) vr, rfl, ⟨_, _, _, _, ?_, rfl⟩, ?_⟩, fun h => absurd HC.out h⟩
  · rw [E2.out]
    refine ⟨hk, S4, D4, Own.nil _ _, OwnI.nil _ _, ⟨bytes_nil _ _, fun g hg => by cases hg⟩, (fun g hg => by cases hg), (fun g hg => by cases hg), JOk.new f0 (by omega) (by omega) (by omega), ?_, rfl⟩
    rw [fm_size]
    show at_ + 2 + (n : Int) ≤ d.size
    omega
  · intro k hk
    simp only [jbl, List.mem_cons, List.mem_append, Option.mem_toList, Option.mem_def] at hk
    rcases hk with rfl | rfl | hk | hk | hk | hk | hk
    · exact .inr (by rw [HG.out]; exact Nat.le_refl _)
    · exact .inr (Nat.le_trans Z2.out HQ.out)
    · exact .inl hk
    · cases hk
    · cases hk
    · cases hk
    · exact .inr (hvrw k hk)
end Go.Proofs.YtfnedeaemjchgaaGreat
/- A journal: whole, read. -/
namespace Go.Proofs.YtfnedeaemjchgaaGreat
open Go.RowKit Go.Maps
set_option linter.unusedSimpArgs false
set_option linter.unusedVariables false

theorem val_two (c e : UInt8) : val [c, e] = c.toNat * 256 + e.toNat := by simp [val]
set_option maxRecDepth 100000 in
theorem jwhole_any (v : Value) (b : Sec) (w : World) (hv : Bytes w v b) (hl : b.length ≤ 1000000) :
    Calls Tryz.prog 77 #[v] w fun e w' => e = .returned (.int .i64 (wholeN b : Nat)) ∧ Drew w w' := by
  obtain ⟨va, vc, rfl, hc⟩ := hv
  by_cases h2 : b.length < 2
  · have e1 : wholeN b = 0 := by unfold wholeN; rw [if_pos h2]
    rw [e1]
    have h2' : (b.length : Int) < 2 := by omega
    clear hc e1
    go_enter Tryz.func77, Tryz.ntmps77
    go_wp2_with fail
    go_ret
    exact ⟨rfl, Drew.refl _⟩
  obtain ⟨c, e, t, rfl⟩ : ∃ c e t, b = c :: e :: t := by
    match b, h2 with
    | [], h => simp at h
    | [_], h => simp at h
    | c :: e :: t, _ => exact ⟨c, e, t, rfl⟩
  obtain ⟨g, off, rfl, k0⟩ := hc 0 c rfl
  obtain ⟨g', off', e', k1⟩ := hc 1 e rfl
  cases e'
  have e1 : wholeN (c :: e :: t) = if (c :: e :: t).length - 2 < c.toNat * 256 + e.toNat then 0 else c.toNat * 256 + e.toNat + 2 := by
    unfold wholeN
    rw [if_neg h2]
    show (if _ < val [c, e] then 0 else val [c, e] + 2) = _
    rw [val_two]
  have hor := bits_join .i64 63 (by decide) (fun n h0 h1 => by rw [IntKind.wrap_i64]; omega) 8 ((c.toNat : Int) * 256) (e.toNat : Int) (by have := c.toNat_lt; have := e.toNat_lt; omega) (by have := c.toNat_lt; have := e.toNat_lt; omega) (by have := c.toNat_lt; have := e.toNat_lt; omega) (by have := c.toNat_lt; have := e.toNat_lt; omega) (by have := c.toNat_lt; have := e.toNat_lt; omega) (by have := c.toNat_lt; have := e.toNat_lt; omega)
  have hc0 := c.toNat_lt
  have he0 := e.toNat_lt
  generalize (c :: e :: t).length = n at *
  have hn2 : 2 ≤ n := by omega
  have hn0 : 0 < n := by omega
  have hn1 : 1 < n := by omega
  have hn1' : (1 : Int) < (n : Int) := by omega
  have n2' : ¬ (n : Int) < 2 := by omega
  generalize c.toNat = x at *
  generalize e.toNat = y at *
  simp only [Nat.add_zero] at k0
  rw [e1]
  clear hc e1 h2
  have HOR := Lib.hid hor
  have wx : IntKind.i64.wrap (x : Int) = (x : Int) := by rw [IntKind.wrap_i64]; omega
  have wy : IntKind.i64.wrap (y : Int) = (y : Int) := by rw [IntKind.wrap_i64]; omega
  have wz : IntKind.i64.wrap ((x : Int) * 256) = (x : Int) * 256 := by rw [IntKind.wrap_i64]; omega
  clear hor
  by_cases h : n - 2 < x * 256 + y
  · rw [if_pos h]
    have h' : (n : Int) - 2 < (x : Int) * 256 + (y : Int) := by omega
    go_enter Tryz.func77, Tryz.ntmps77
    go_wp2_with fail
    refine wp_region_held_drew (S := fun w' => w'.cell? ⟨g, off, none⟩ = some (.int .u8 x) ∧ w'.cell? ⟨g, off + 1, none⟩ = some (.int .u8 y)) (by kernel_rfl) ⟨k0, k1⟩ (fun hH => ?_)
    have hor := HOR.out
    refine take_list (i := 0) (v := ?_) rfl (by kernel_rfl) (by kernel_rfl) (by kernel_rfl) (fun _ _ _ h => h) (Or.inl ⟨by rfl, ?_⟩) hH ?_
    rotate_left
    · ((intro w hSw; (try dsimp only at hSw); go_simp); try with_reducible rfl)
    simp only [Act.put, List.setIfInBounds_toArray, List.set_cons_zero, List.set_cons_succ]
    refine take_list (i := 1) (v := ?_) rfl (by kernel_rfl) (by kernel_rfl) (by kernel_rfl) (fun _ _ _ h => h) (Or.inl ⟨by rfl, ?_⟩) hH ?_
    rotate_left
    · ((intro w hSw; (try dsimp only at hSw); go_simp); try with_reducible rfl)
    simp only [Act.put, List.setIfInBounds_toArray, List.set_cons_zero, List.set_cons_succ]
    refine take_list (i := 2) (v := ?_) rfl (by kernel_rfl) (by kernel_rfl) (by kernel_rfl) (fun _ _ _ h => h) (Or.inl ⟨by rfl, ?_⟩) hH ?_
    rotate_left
    · ((intro w hSw; (try dsimp only at hSw); go_simp); try with_reducible rfl)
    simp only [Act.put, List.setIfInBounds_toArray, List.set_cons_zero, List.set_cons_succ]
    refine take_list (i := 3) (v := ?_) rfl (by kernel_rfl) (by kernel_rfl) (by kernel_rfl) (fun _ _ _ h => h) (Or.inl ⟨by rfl, ?_⟩) hH ?_
    rotate_left
    · ((intro w hSw; (try dsimp only at hSw); go_simp); try with_reducible rfl)
    simp only [Act.put, List.setIfInBounds_toArray, List.set_cons_zero, List.set_cons_succ]
    refine take_list (i := 4) (v := ?_) rfl (by kernel_rfl) (by kernel_rfl) (by kernel_rfl) (fun _ _ _ h => h) (Or.inl ⟨by rfl, ?_⟩) hH ?_
    rotate_left
    · ((intro w hSw; (try dsimp only at hSw); go_simp); try with_reducible rfl)
    simp only [Act.put, List.setIfInBounds_toArray, List.set_cons_zero, List.set_cons_succ]
    refine take_list (i := 5) (v := ?_) rfl (by kernel_rfl) (by kernel_rfl) (by kernel_rfl) (fun _ _ _ h => h) (Or.inl ⟨by rfl, ?_⟩) hH ?_
    rotate_left
    · ((intro w hSw; (try dsimp only at hSw); go_simp); try with_reducible rfl)
    simp only [Act.put, List.setIfInBounds_toArray, List.set_cons_zero, List.set_cons_succ]
    refine take_list (i := 6) (v := ?_) rfl (by kernel_rfl) (by kernel_rfl) (by kernel_rfl) (fun _ _ _ h => h) (Or.inl ⟨by rfl, ?_⟩) hH ?_
    rotate_left
    · ((intro w hSw; (try dsimp only at hSw); go_simp); try with_reducible rfl)
    simp only [Act.put, List.setIfInBounds_toArray, List.set_cons_zero, List.set_cons_succ]
    refine take_list (i := 7) (v := ?_) rfl (by kernel_rfl) (by kernel_rfl) (by kernel_rfl) (fun _ _ _ h => h) (Or.inl ⟨by rfl, ?_⟩) hH ?_
    rotate_left
    · ((intro w hSw; (try dsimp only at hSw); go_simp); try with_reducible rfl)
    simp only [Act.put, List.setIfInBounds_toArray, List.set_cons_zero, List.set_cons_succ]
    refine take_list (i := 8) (v := ?_) rfl (by kernel_rfl) (by kernel_rfl) (by kernel_rfl) (fun _ _ _ h => h) (Or.inl ⟨by rfl, ?_⟩) hH ?_
    rotate_left
    · ((intro w hSw; (try dsimp only at hSw); go_simp); try with_reducible rfl)
    simp only [Act.put, List.setIfInBounds_toArray, List.set_cons_zero, List.set_cons_succ]
    refine take_list (i := 9) (v := ?_) rfl (by kernel_rfl) (by kernel_rfl) (by kernel_rfl) (fun _ _ _ h => h) (Or.inl ⟨by rfl, ?_⟩) hH ?_
    rotate_left
    · ((intro w hSw; (try dsimp only at hSw); go_simp); try with_reducible rfl)
    simp only [Act.put, List.setIfInBounds_toArray, List.set_cons_zero, List.set_cons_succ]
    refine take_list (i := 10) (v := ?_) rfl (by kernel_rfl) (by kernel_rfl) (by kernel_rfl) (fun _ _ _ h => h) (Or.inl ⟨by rfl, ?_⟩) hH ?_
    rotate_left
    · ((intro w hSw; (try dsimp only at hSw); go_simp); try with_reducible rfl)
    simp only [Act.put, List.setIfInBounds_toArray, List.set_cons_zero, List.set_cons_succ]
    refine wpAnyH_done (by kernel_rfl) ?_ _
    clear hor hH
    go_wp2_with fail
    go_ret
    exact ⟨rfl, 1, rfl⟩
  · rw [if_neg h]
    have h' : ¬ (n : Int) - 2 < (x : Int) * 256 + (y : Int) := by omega
    go_enter Tryz.func77, Tryz.ntmps77
    go_wp2_with fail
    refine wp_region_held_drew (S := fun w' => w'.cell? ⟨g, off, none⟩ = some (.int .u8 x) ∧ w'.cell? ⟨g, off + 1, none⟩ = some (.int .u8 y)) (by kernel_rfl) ⟨k0, k1⟩ (fun hH => ?_)
    have hor := HOR.out
    refine take_list (i := 0) (v := ?_) rfl (by kernel_rfl) (by kernel_rfl) (by kernel_rfl) (fun _ _ _ h => h) (Or.inl ⟨by rfl, ?_⟩) hH ?_
    rotate_left
    · ((intro w hSw; (try dsimp only at hSw); go_simp); try with_reducible rfl)
    simp only [Act.put, List.setIfInBounds_toArray, List.set_cons_zero, List.set_cons_succ]
    refine take_list (i := 1) (v := ?_) rfl (by kernel_rfl) (by kernel_rfl) (by kernel_rfl) (fun _ _ _ h => h) (Or.inl ⟨by rfl, ?_⟩) hH ?_
    rotate_left
    · ((intro w hSw; (try dsimp only at hSw); go_simp); try with_reducible rfl)
    simp only [Act.put, List.setIfInBounds_toArray, List.set_cons_zero, List.set_cons_succ]
    refine take_list (i := 2) (v := ?_) rfl (by kernel_rfl) (by kernel_rfl) (by kernel_rfl) (fun _ _ _ h => h) (Or.inl ⟨by rfl, ?_⟩) hH ?_
    rotate_left
    · ((intro w hSw; (try dsimp only at hSw); go_simp); try with_reducible rfl)
    simp only [Act.put, List.setIfInBounds_toArray, List.set_cons_zero, List.set_cons_succ]
    refine take_list (i := 3) (v := ?_) rfl (by kernel_rfl) (by kernel_rfl) (by kernel_rfl) (fun _ _ _ h => h) (Or.inl ⟨by rfl, ?_⟩) hH ?_
    rotate_left
    · ((intro w hSw; (try dsimp only at hSw); go_simp); try with_reducible rfl)
    simp only [Act.put, List.setIfInBounds_toArray, List.set_cons_zero, List.set_cons_succ]
    refine take_list (i := 4) (v := ?_) rfl (by kernel_rfl) (by kernel_rfl) (by kernel_rfl) (fun _ _ _ h => h) (Or.inl ⟨by rfl, ?_⟩) hH ?_
    rotate_left
    · ((intro w hSw; (try dsimp only at hSw); go_simp); try with_reducible rfl)
    simp only [Act.put, List.setIfInBounds_toArray, List.set_cons_zero, List.set_cons_succ]
    refine take_list (i := 5) (v := ?_) rfl (by kernel_rfl) (by kernel_rfl) (by kernel_rfl) (fun _ _ _ h => h) (Or.inl ⟨by rfl, ?_⟩) hH ?_
    rotate_left
    · ((intro w hSw; (try dsimp only at hSw); go_simp); try with_reducible rfl)
    simp only [Act.put, List.setIfInBounds_toArray, List.set_cons_zero, List.set_cons_succ]
    refine take_list (i := 6) (v := ?_) rfl (by kernel_rfl) (by kernel_rfl) (by kernel_rfl) (fun _ _ _ h => h) (Or.inl ⟨by rfl, ?_⟩) hH ?_
    rotate_left
    · ((intro w hSw; (try dsimp only at hSw); go_simp); try with_reducible rfl)
    simp only [Act.put, List.setIfInBounds_toArray, List.set_cons_zero, List.set_cons_succ]
    refine take_list (i := 7) (v := ?_) rfl (by kernel_rfl) (by kernel_rfl) (by kernel_rfl) (fun _ _ _ h => h) (Or.inl ⟨by rfl, ?_⟩) hH ?_
    rotate_left
    · ((intro w hSw; (try dsimp only at hSw); go_simp); try with_reducible rfl)
    simp only [Act.put, List.setIfInBounds_toArray, List.set_cons_zero, List.set_cons_succ]
    refine take_list (i := 8) (v := ?_) rfl (by kernel_rfl) (by kernel_rfl) (by kernel_rfl) (fun _ _ _ h => h) (Or.inl ⟨by rfl, ?_⟩) hH ?_
    rotate_left
    · ((intro w hSw; (try dsimp only at hSw); go_simp); try with_reducible rfl)
    simp only [Act.put, List.setIfInBounds_toArray, List.set_cons_zero, List.set_cons_succ]
    refine take_list (i := 9) (v := ?_) rfl (by kernel_rfl) (by kernel_rfl) (by kernel_rfl) (fun _ _ _ h => h) (Or.inl ⟨by rfl, ?_⟩) hH ?_
    rotate_left
    · ((intro w hSw; (try dsimp only at hSw); go_simp); try with_reducible rfl)
    simp only [Act.put, List.setIfInBounds_toArray, List.set_cons_zero, List.set_cons_succ]
    refine take_list (i := 10) (v := ?_) rfl (by kernel_rfl) (by kernel_rfl) (by kernel_rfl) (fun _ _ _ h => h) (Or.inl ⟨by rfl, ?_⟩) hH ?_
    rotate_left
    · ((intro w hSw; (try dsimp only at hSw); go_simp); try with_reducible rfl)
    simp only [Act.put, List.setIfInBounds_toArray, List.set_cons_zero, List.set_cons_succ]
    refine wpAnyH_done (by kernel_rfl) ?_ _
    clear hor hH
    go_wp2_with fail
    go_ret
    exact ⟨ret_i64 (by omega), 1, rfl⟩

/-! ### read -/
theorem place_raw {w : World} {p : Nat} {at_ : Int} {n : Nat} (c1 : w.cell? ⟨p, 1, none⟩ = some (.int .i64 (at_ + 2))) (c2 : w.cell? ⟨p, 2, none⟩ = some (.int .i64 n)) (hn : 2 ≤ n) (hx : n ≤ 2048) (ha : 0 ≤ at_) (hb : at_ + 2 + n ≤ 4096) (k : Nat) (hk : k ≤ 1152921504606846976) :
    Calls Tryz.prog 69 #[.pointer (some ⟨p, 0, none⟩), .int .i64 k] w fun e w' => e = .returned (.int .i64 (at_ + 2 + (k % n : Nat))) ∧ Drew w w' := by
  have hlt := Nat.mod_lt k (show 0 < n by omega)
  have e1 : (k : Int).tmod (n : Int) = ((k % n : Nat) : Int) := by rw [Int.tmod_eq_emod_of_nonneg (by omega)]; rfl
  have n0 : ¬ n = 0 := by omega
  generalize k % n = r at *
  have e2 : IntKind.i64.wrap (at_ + 2 + (r : Int)) = at_ + 2 + (r : Int) := by
    rw [IntKind.wrap_i64]
    omega
  have k0 : (0 : Int) ≤ (k : Int) := by omega
  go_enter Tryz.func69, Tryz.ntmps69
  go_wp2_with fail
  refine wp_region_held_drew (S := fun w' => w'.cell? ⟨p, 1, none⟩ = some (.int .i64 (at_ + 2)) ∧ w'.cell? ⟨p, 2, none⟩ = some (.int .i64 n)) (by kernel_rfl) ⟨c1, c2⟩ (fun hH => ?_)
  refine take_list (i := 0) (v := ?_) rfl (by kernel_rfl) (by kernel_rfl) (by kernel_rfl) (fun _ _ _ h => h) (Or.inl ⟨by rfl, ?_⟩) hH ?_
  rotate_left
  · ((intro w hSw; (try dsimp only at hSw); go_simp); try with_reducible rfl)
  simp only [Act.put, List.setIfInBounds_toArray, List.set_cons_zero, List.set_cons_succ]
  refine take_list (i := 1) (v := ?_) rfl (by kernel_rfl) (by kernel_rfl) (by kernel_rfl) (fun _ _ _ h => h) (Or.inl ⟨by rfl, ?_⟩) hH ?_
  rotate_left
  · ((intro w hSw; (try dsimp only at hSw); go_simp); try with_reducible rfl)
  simp only [Act.put, List.setIfInBounds_toArray, List.set_cons_zero, List.set_cons_succ]
  refine take_list (i := 2) (v := ?_) rfl (by kernel_rfl) (by kernel_rfl) (by kernel_rfl) (fun _ _ _ h => h) (Or.inl ⟨by rfl, ?_⟩) hH ?_
  rotate_left
  · ((intro w hSw; (try dsimp only at hSw); go_simp); try with_reducible rfl)
  simp only [Act.put, List.setIfInBounds_toArray, List.set_cons_zero, List.set_cons_succ]
  refine take_list (i := 3) (v := ?_) rfl (by kernel_rfl) (by kernel_rfl) (by kernel_rfl) (fun _ _ _ h => h) (Or.inl ⟨by rfl, ?_⟩) hH ?_
  rotate_left
  · ((intro w hSw; (try dsimp only at hSw); go_simp); try with_reducible rfl)
  simp only [Act.put, List.setIfInBounds_toArray, List.set_cons_zero, List.set_cons_succ]
  refine take_list (i := 4) (v := ?_) rfl (by kernel_rfl) (by kernel_rfl) (by kernel_rfl) (fun _ _ _ h => h) (Or.inl ⟨by rfl, ?_⟩) hH ?_
  rotate_left
  · ((intro w hSw; (try dsimp only at hSw); go_simp); try with_reducible rfl)
  simp only [Act.put, List.setIfInBounds_toArray, List.set_cons_zero, List.set_cons_succ]
  refine take_list (i := 5) (v := ?_) rfl (by kernel_rfl) (by kernel_rfl) (by kernel_rfl) (fun _ _ _ h => h) (Or.inl ⟨by rfl, ?_⟩) hH ?_
  rotate_left
  · ((intro w hSw; (try dsimp only at hSw); go_simp); try with_reducible rfl)
  simp only [Act.put, List.setIfInBounds_toArray, List.set_cons_zero, List.set_cons_succ]
  refine take_list (i := 6) (v := ?_) rfl (by kernel_rfl) (by kernel_rfl) (by kernel_rfl) (fun _ _ _ h => h) (Or.inl ⟨by rfl, ?_⟩) hH ?_
  rotate_left
  · ((intro w hSw; (try dsimp only at hSw); go_simp); try with_reducible rfl)
  simp only [Act.put, List.setIfInBounds_toArray, List.set_cons_zero, List.set_cons_succ]
  refine take_list (i := 7) (v := ?_) rfl (by kernel_rfl) (by kernel_rfl) (by kernel_rfl) (fun _ _ _ h => h) (Or.inl ⟨by rfl, ?_⟩) hH ?_
  rotate_left
  · ((intro w hSw; (try dsimp only at hSw); go_simp); try with_reducible rfl)
  simp only [Act.put, List.setIfInBounds_toArray, List.set_cons_zero, List.set_cons_succ]
  refine take_list (i := 8) (v := ?_) rfl (by kernel_rfl) (by kernel_rfl) (by kernel_rfl) (fun _ _ _ h => h) (Or.inl ⟨by rfl, ?_⟩) hH ?_
  rotate_left
  · ((intro w hSw; (try dsimp only at hSw); go_simp); try with_reducible rfl)
  simp only [Act.put, List.setIfInBounds_toArray, List.set_cons_zero, List.set_cons_succ]
  refine take_list (i := 9) (v := ?_) rfl (by kernel_rfl) (by kernel_rfl) (by kernel_rfl) (fun _ _ _ h => h) (Or.inl ⟨by rfl, ?_⟩) hH ?_
  rotate_left
  · ((intro w hSw; (try dsimp only at hSw); go_simp); try with_reducible rfl)
  simp only [Act.put, List.setIfInBounds_toArray, List.set_cons_zero, List.set_cons_succ]
  refine take_list (i := 10) (v := ?_) rfl (by kernel_rfl) (by kernel_rfl) (by kernel_rfl) (fun _ _ _ h => h) (Or.inl ⟨by rfl, ?_⟩) hH ?_
  rotate_left
  · ((intro w hSw; (try dsimp only at hSw); go_simp); try with_reducible rfl)
  simp only [Act.put, List.setIfInBounds_toArray, List.set_cons_zero, List.set_cons_succ]
  refine take_list (i := 11) (v := ?_) rfl (by kernel_rfl) (by kernel_rfl) (by kernel_rfl) (fun _ _ _ h => h) (Or.inl ⟨by rfl, ?_⟩) hH ?_
  rotate_left
  · ((intro w hSw; (try dsimp only at hSw); go_simp); try with_reducible rfl)
  simp only [Act.put, List.setIfInBounds_toArray, List.set_cons_zero, List.set_cons_succ]
  refine wpAnyH_done (by kernel_rfl) ?_ _
  go_wp2_with fail
  go_ret
  exact ⟨rfl, 1, rfl⟩
/-- The journal's ring: what of its block place and read look at. -/
structure RM (w : World) (p : Nat) (a : DA) (at_ : Int) (n : Nat) (d : Disk) : Prop where
  c0 : w.cell? ⟨p, 0, none⟩ = some (.pointer (some ⟨a.p, 0, none⟩))
  c1 : w.cell? ⟨p, 1, none⟩ = some (.int .i64 (at_ + 2))
  c2 : w.cell? ⟨p, 2, none⟩ = some (.int .i64 n)
  dev : Dev w a d
  n2 : 2 ≤ n
  nm : n ≤ 2048
  at0 : 0 ≤ at_
  here : at_ + 2 + n ≤ d.size
theorem RM.quiet {w w' : World} {p : Nat} {a : DA} {at_ : Int} {n : Nat} {d : Disk} (h : RM w p a at_ n d) (ho : Only [] w w') : RM w' p a at_ n d :=
  ⟨cell_kept ho h.c0 (by simp), cell_kept ho h.c1 (by simp), cell_kept ho h.c2 (by simp), h.dev.kept ho (by simp), h.n2, h.nm, h.at0, h.here⟩
set_option maxRecDepth 100000 in
set_option maxHeartbeats 1600000 in
theorem jread_any {w : World} {p : Nat} {a : DA} {at_ : Int} {n : Nat} {d : Disk} (hm : RM w p a at_ n d) (hdn : d.met.down = false) (k : Nat) (hk : k ≤ 1152921504606846976) (b : Sec) (hp : IsPiece (d.get (at_ + 2 + (k % n : Nat))) k b) :
    Calls Tryz.prog 75 #[.pointer (some ⟨p, 0, none⟩), .int .i64 k] w fun e w' => ∃ x c, e = .returned (.tuple #[.slice x 470 c, .nilIface]) ∧ Own w' w.heap.size (.slice x 470 c) b ∧ Only [] w w' := by
  have hhi := hm.dev.hi
  have hhere := hm.here
  have hpl := place_raw hm.c1 hm.c2 hm.n2 hm.nm hm.at0 (by omega) k hk
  have hlt := Nat.mod_lt k (show 0 < n by have := hm.n2; omega)
  have hat0 := hm.at0
  have hin : inB (at_ + 2 + (k % n : Nat)) d.size = true := inB_iff.2 ⟨by omega, by omega⟩
  have M0 := Lib.hid hm
  generalize hPL : at_ + 2 + ((k % n : Nat) : Int) = pl at hp hpl hin
  have HPL := Lib.hid hPL
  clear hPL
  obtain ⟨hp1, hp2⟩ := hp
  have hnl := num_len (k := k) (by omega)
  have htk := takeN_num (n := (k : Int)) (by omega) (by omega) b
  have hget := hm.dev.get_length pl
  generalize hG : d.get pl = G at hp1 hget
  have HG := Lib.hid hG
  have HTK := Lib.hid htk
  have HP1 := Lib.hid hp1
  have HP2 := Lib.hid hp2
  have HIN := Lib.hid hin
  have HDN := Lib.hid hdn
  have hdl : (num (k : Int) ++ b).length = (num (k : Int)).length + 470 := by rw [List.length_append, hp2]
  have hdr : (num (k : Int) ++ b).drop (num (k : Int)).length = b := by simp
  have HDR := Lib.hid hdr
  have q1 := iface_ne
  have hd2 : (num (k : Int) ++ b).length - (num (k : Int)).length = 470 := by omega
  have HD2 := Lib.hid hd2
  have hnl2 : (num (k : Int) ++ b).length ≤ 500 := by omega
  clear hm hp1 hp2 htk hG hin hdn hdr hdl hd2
  generalize num (k : Int) ++ b = E at *
  go_enter Tryz.func75, Tryz.ntmps75
  go_wp2_with fail
  have o1 : Only [] w w.drew := (Only.refl [] w).drew
  have M1 := Lib.hid (M0.out.quiet o1)
  have O1 := Lib.hid o1
  clear o1 hpl
  refine wp_region_held_drew (S := fun w' => w'.cell? ⟨p, 0, none⟩ = some (.pointer (some ⟨a.p, 0, none⟩))) (by kernel_rfl) M1.out.c0 (fun hH => ?_)
  refine take_list (i := 0) (v := ?_) rfl (by kernel_rfl) (by kernel_rfl) (by kernel_rfl) (fun _ _ _ h => h) (Or.inl ⟨by rfl, ?_⟩) hH ?_
  rotate_left
  · ((intro w hSw; (try dsimp only at hSw); go_simp); try with_reducible rfl)
  simp only [Act.put, List.setIfInBounds_toArray, List.set_cons_zero, List.set_cons_succ]
  refine take_list (i := 1) (v := ?_) rfl (by kernel_rfl) (by kernel_rfl) (by kernel_rfl) (fun _ _ _ h => h) (Or.inl ⟨by rfl, ?_⟩) hH ?_
  rotate_left
  · ((intro w hSw; (try dsimp only at hSw); go_simp); try with_reducible rfl)
  simp only [Act.put, List.setIfInBounds_toArray, List.set_cons_zero, List.set_cons_succ]
  refine take_list (i := 2) (v := ?_) rfl (by kernel_rfl) (by kernel_rfl) (by kernel_rfl) (fun _ _ _ h => h) (Or.inl ⟨by rfl, ?_⟩) hH ?_
  rotate_left
  · ((intro w hSw; (try dsimp only at hSw); go_simp); try with_reducible rfl)
  simp only [Act.put, List.setIfInBounds_toArray, List.set_cons_zero, List.set_cons_succ]
  refine take_list (i := 3) (v := ?_) rfl (by kernel_rfl) (by kernel_rfl) (by kernel_rfl) (fun _ _ _ h => h) (Or.inl ⟨by rfl, ?_⟩) hH ?_
  rotate_left
  · ((intro w hSw; (try dsimp only at hSw); go_simp); try with_reducible rfl)
  simp only [Act.put, List.setIfInBounds_toArray, List.set_cons_zero, List.set_cons_succ]
  refine take_list (i := 4) (v := ?_) rfl (by kernel_rfl) (by kernel_rfl) (by kernel_rfl) (fun _ _ _ h => h) (Or.inl ⟨by rfl, ?_⟩) hH ?_
  rotate_left
  · ((intro w hSw; (try dsimp only at hSw); go_simp); try with_reducible rfl)
  simp only [Act.put, List.setIfInBounds_toArray, List.set_cons_zero, List.set_cons_succ]
  refine take_list (i := 5) (v := ?_) rfl (by kernel_rfl) (by kernel_rfl) (by kernel_rfl) (fun _ _ _ h => h) (Or.inl ⟨by rfl, ?_⟩) hH ?_
  rotate_left
  · ((intro w hSw; (try dsimp only at hSw); go_simp); try with_reducible rfl)
  simp only [Act.put, List.setIfInBounds_toArray, List.set_cons_zero, List.set_cons_succ]
  refine wpAnyH_ready (rs := [6]) (by kernel_rfl) (by simp) ?_
  refine ready_list rfl (fun K hK => ?_)
  go_simp
  refine (place_raw M1.out.c1 M1.out.c2 M1.out.n2 M1.out.nm M1.out.at0 (by omega) k hk).mono ?_
  rintro e w2 ⟨rfl, hd2⟩
  have M2 := Lib.hid (M1.out.quiet hd2.only)
  have O2 := Lib.hid (O1.out.trans hd2.only (by simp))
  rw [HPL.out]
  refine hK.out _ _ M2.out.c0 (fun hH => ?_)
  clear hK K hd2 M1 O1
  refine wpAnyH_ready (rs := [7]) (by kernel_rfl) (by simp) ?_
  refine ready_list rfl (fun K hK => ?_)
  go_simp
  refine (Read_any a d pl w2 M2.out.dev HIN.out HDN.out).mono ?_
  rintro e w3 ⟨g3, rfl, b3, _, o3⟩
  rw [HG.out] at b3
  have hb3 := b3.bytes 512
  rw [hget] at hb3
  have B3 := Lib.hid hb3
  have M3 := Lib.hid (M2.out.quiet o3)
  have O3 := Lib.hid (O2.out.trans o3 (by simp))
  refine hK.out _ _ M3.out.c0 (fun hH => ?_)
  clear hK K b3 hb3 o3 M2 O2
  refine take_list (i := 8) (v := ?_) rfl (by kernel_rfl) (by kernel_rfl) (by kernel_rfl) (fun _ _ _ h => h) (Or.inl ⟨by rfl, ?_⟩) hH ?_
  rotate_left
  · ((intro w hSw; (try dsimp only at hSw); go_simp); try with_reducible rfl)
  simp only [Act.put, List.setIfInBounds_toArray, List.set_cons_zero, List.set_cons_succ]
  refine take_list (i := 9) (v := ?_) rfl (by kernel_rfl) (by kernel_rfl) (by kernel_rfl) (fun _ _ _ h => h) (Or.inl ⟨by rfl, ?_⟩) hH ?_
  rotate_left
  · ((intro w hSw; (try dsimp only at hSw); go_simp); try with_reducible rfl)
  simp only [Act.put, List.setIfInBounds_toArray, List.set_cons_zero, List.set_cons_succ]
  refine take_list (i := 10) (v := ?_) rfl (by kernel_rfl) (by kernel_rfl) (by kernel_rfl) (fun _ _ _ h => h) (Or.inl ⟨by rfl, ?_⟩) hH ?_
  rotate_left
  · ((intro w hSw; (try dsimp only at hSw); go_simp); try with_reducible rfl)
  simp only [Act.put, List.setIfInBounds_toArray, List.set_cons_zero, List.set_cons_succ]
  refine take_list (i := 11) (v := ?_) rfl (by kernel_rfl) (by kernel_rfl) (by kernel_rfl) (fun _ _ _ h => h) (Or.inl ⟨by rfl, ?_⟩) hH ?_
  rotate_left
  · ((intro w hSw; (try dsimp only at hSw); go_simp); try with_reducible rfl)
  simp only [Act.put, List.setIfInBounds_toArray, List.set_cons_zero, List.set_cons_succ]
  refine take_list (i := 12) (v := ?_) rfl (by kernel_rfl) (by kernel_rfl) (by kernel_rfl) (fun _ _ _ h => h) (Or.inl ⟨by rfl, ?_⟩) hH ?_
  rotate_left
  · ((intro w hSw; (try dsimp only at hSw); go_simp); try with_reducible rfl)
  simp only [Act.put, List.setIfInBounds_toArray, List.set_cons_zero, List.set_cons_succ]
  refine wpAnyH_done (by kernel_rfl) ?_ _
  clear hH
  go_wp2_with fail
  have hun := Unbox_any (.slice (some ⟨g3, 0, none⟩) 512 512) G w3 B3.out (fit_at (Nat.le_refl _) (by decide)) (by omega)
  refine hun.mono ?_
  rintro e w4 ⟨_, hy4, o4⟩
  obtain ⟨a4, k4, rfl, h4⟩ := hy4 _ HP1.out
  have H4 := Lib.hid h4
  have O4 := Lib.hid (O3.out.trans o4 (by simp))
  clear hun hy4 h4 o4 B3 M3 O3
  go_wp2_with fail
  refine (Take_some _ E w4 H4.out.bytes H4.out.fit (by omega) (k : Int) (num (k : Int)).length HTK.out).mono ?_
  rw [HD2.out, HDR.out]
  rintro e w5 ⟨a5, k5, rfl, h5, o5⟩
  have F := Lib.hid (And.intro (h5.mono (base' := w.heap.size) O4.out.size) (O4.out.trans o5 (by simp)))
  have hkk : ((k : Int) != (k : Int)) = false := by simp
  clear h5 o5 H4 O4
  go_wp2_with fail
  go_ret2
  exact ⟨a5, k5, rfl, F.out.1, F.out.2⟩
end Go.Proofs.YtfnedeaemjchgaaGreat
