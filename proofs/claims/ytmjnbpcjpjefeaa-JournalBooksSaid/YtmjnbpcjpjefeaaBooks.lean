/- JournalBooks: whatever the size, the room that is booked and the lengths, room which is booked is there for Spend. No condition. -/
import Derived.Test.YtmjnbpcjpjefeaaJg
namespace Go.Proofs.Ytmjnbpcjpjefeaa
open Go.ChangeShapes Go.WideShapes Go.ChangeAt Go.RowKit Go.Maps
set_option linter.unusedVariables false
set_option linter.unusedSimpArgs false

/-- A journal from its beginning on, alive, with at least b bytes of room. -/
structure Bk (n b : Nat) (j : JL) : Prop where
  n : j.n = n
  first : j.first = 1
  start : j.start = 0
  dead : j.dead = false
  room : (b : Int) ≤ j.free
section
variable {n b : Nat} {j : JL} {r : Sec}
theorem Bk.big (h : Bk n b j) (hj : JOk j) : JBig j := by
  have h1 := hj.stream
  have h2 := hj.room
  have h3 := hj.nm
  have h4 := flat_count j.recs
  rw [h.start] at h1
  refine ⟨?_, ?_⟩
  · unfold JL.fin
    rw [h.start]
    omega
  · unfold JL.next
    rw [h.first]
    omega
theorem Bk.put {c : Nat} (h : Bk n b j) (hr : (c : Int) + (r.length + 2) ≤ j.free) : Bk n c (j.put r) := by
  refine ⟨h.n, h.first, h.start, h.dead, ?_⟩
  rw [put_free]
  omega
end
theorem nn_e5 (w : World) : (binOp .eql 27 .nilIface (err 5)).run Try.prog w = .ok (.bool false) w := by kernel_rfl

set_option maxRecDepth 100000 in
set_option maxHeartbeats 1000000 in
theorem jbooks_walk (a b : Int) (v : Value) (ls : List Int) (w : World) (ha : (Lit.int .i64 a).wf = true) (hb : (Lit.int .i64 b).wf = true) (hv : IntsV w v ls) (hl : ls.length ≤ maxLen) :
    Calls Try.prog 4 #[.int .i64 a, .int .i64 b, v] w fun e w' => e = .returned (.bool true) ∧ Only [] w w' := by
  obtain ⟨va, vc, rfl, -⟩ := id hv
  have HV := Lib.hid hv
  clear hv ha hb
  obtain ⟨j1, hj1, e1⟩ := modU a 20 (by decide) (by decide)
  obtain ⟨n, hn⟩ : ∃ n : Nat, n = j1 + 2 := ⟨_, rfl⟩
  have e3 : (2 : Int) + (j1 : Int) = (n : Int) := by omega
  have hn2 : 2 ≤ n := by omega
  have hn21 : n ≤ 21 := by omega
  obtain ⟨bk, hbk, e2⟩ := modU b ((n : Int) * 470) (by omega) (by omega)
  have hnz : ¬ (n : Int) * 470 = 0 := by omega
  have E3 := Lib.hid e3
  have E2 := Lib.hid e2
  clear e3 e2 hn
  have q0 := iface_nil
  have q1 := iface_ne
  have q2 := iface_nerr
  have qn := err_n55
  go_enter Try.func4, Try.ntmps4
  go_wp2_with fail
  refine (alive4_any _).mono ?_
  rintro e w1 ⟨rfl, o1⟩
  have O1 := Lib.hid o1
  have V1 := Lib.hid (HV.out.kept o1 (fun _ _ _ _ _ => by simp))
  clear o1 HV
  by_cases hlen : 300 < ls.length
  · have hlen' : (300 : Int) < (ls.length : Int) := by omega
    go_wp2_with fail
    go_ret
    exact ⟨rfl, O1.out⟩
  have hlen' : ¬ (300 : Int) < (ls.length : Int) := by omega
  go_wp2_with fail
  rw [E3.out]
  refine (begun_any n w1 (by omega) (by omega)).mono ?_
  rintro e w2 ⟨m, p, q, a2, d, rfl, s2, -, -, -⟩
  have S2 := Lib.hid s2
  have c2 : w2.cell? ⟨m, 2, none⟩ = some (.pointer (some ⟨p, 0, none⟩)) := s2.c2
  have hfr := new_free 1 n
  have hbc : (JL.new 1 n).bcode (bk : Int) = 0 := bcode_0 (by omega) (by rw [hfr]; show ¬ (n : Int) * 470 - ((0 : Nat) : Int) < _; omega)
  have e2 := E2.out
  clear s2 e1 E3 E2 hj1
  go_wp2_with fail
  have hbook := book_mo S2.out (bk : Int)
  rw [hbc, book_yes hbc, errV_z rfl] at hbook
  refine hbook.mono ?_
  rintro e w3 ⟨rfl, s3⟩
  have S3 := Lib.hid s3
  have B3 := Lib.hid (show Bk n bk ({ JL.new 1 n with booked := (JL.new 1 n).booked + (bk : Int).toNat } : JL) from ⟨rfl, rfl, rfl, rfl, by show (bk : Int) ≤ (JL.new 1 n).free; rw [hfr]; omega⟩)
  have K3 := Lib.hid (show ({ JL.new 1 n with booked := (JL.new 1 n).booked + (bk : Int).toNat } : JL).booked = bk from by show 0 + (bk : Int).toNat = bk; omega)
  clear s3 hbook hbc hfr S2 c2 e2 hnz
  generalize ({ JL.new 1 n with booked := (JL.new 1 n).booked + (bk : Int).toNat } : JL) = j3 at S3 B3 K3
  go_wp2_with fail
  go_loopw [9, 46] (fun _ i wr => ∃ (k : Nat) (j : JL), i = .int .i64 k ∧ k ≤ ls.length ∧ JMo w1 wr m p q a2 d j ⟨1, 1, row0, false⟩ ∧ Bk n bk j ∧ j.booked = bk) (fun _ i _ => ls.length - (intOf i).toNat)
  case atStart => exact ⟨0, j3, rfl, by omega, S3.out, B3.out, K3.out⟩
  case round =>
    obtain ⟨k, j, rfl, hk, s4, b4, k4⟩ := hrel
    have S4 := Lib.hid s4
    have B4 := Lib.hid b4
    have K4 := Lib.hid k4
    have V4 := Lib.hid (V1.out.kept s4.only (fun _ _ _ _ _ => by simp))
    clear s4 b4 k4 S3 B3 K3
    by_cases hlt : k < ls.length
    · have hkl : ls[k]? = some ls[k] := List.getElem?_eq_getElem hlt
      obtain ⟨hwf, bb, off, cap1, hva, hcell⟩ := V4.out.at_ hkl
      cases hva
      clear hkl
      generalize ls[k] = x at hwf hcell
      obtain ⟨j5, hj5, e5⟩ := modU x 4096 (by decide) (by decide)
      obtain ⟨z, hz⟩ : ∃ z : Nat, z = j5 + 1 := ⟨_, rfl⟩
      have E5 := Lib.hid (show (1 : Int) + (j5 : Int) = (z : Int) by omega)
      have hz1 : 1 ≤ z := by omega
      have hz2 : z ≤ 4096 := by omega
      clear hz
      go_wp2_with fail
      rw [E5.out]
      have o4 : Only [] wr wr.drew := (Only.refl [] wr).drew
      have S5 := Lib.hid (S4.out.quiet o4)
      have c2 : wr.drew.cell? ⟨m, 2, none⟩ = some (.pointer (some ⟨p, 0, none⟩)) := S5.out.c2
      clear o4 S4 hj5 e5 E5 hcell hwf
      refine wp_region_held_drew (S := fun w' => w'.cell? ⟨m, 2, none⟩ = some (.pointer (some ⟨p, 0, none⟩))) (by kernel_rfl) c2 (fun hH => ?_)
      refine take_list (i := 0) (v := ?_) rfl (by kernel_rfl) (by kernel_rfl) (by kernel_rfl) (fun _ _ _ h => h) (Or.inl ⟨by rfl, ?_⟩) hH ?_
      rotate_left
      · ((intro w hSw; (try dsimp only at hSw); go_simp); try with_reducible rfl)
      simp only [Act.put, List.setIfInBounds_toArray, List.set_cons_zero, List.set_cons_succ]
      refine take_list (i := 1) (v := ?_) rfl (by kernel_rfl) (by kernel_rfl) (by kernel_rfl) (fun _ _ _ h => h) (Or.inl ⟨by rfl, ?_⟩) hH ?_
      rotate_left
      · ((intro w hSw; (try dsimp only at hSw); go_simp); try with_reducible rfl)
      simp only [Act.put, List.setIfInBounds_toArray, List.set_cons_zero, List.set_cons_succ]
      refine take_list (i := 2) (v := ?_) rfl (by kernel_rfl) (by kernel_rfl) (by kernel_rfl) (fun _ _ _ h => h) (Or.inl ⟨by rfl, ?_⟩) hH ?_
      rotate_left
      · ((intro w hSw; (try dsimp only at hSw); go_simp); try with_reducible rfl)
      simp only [Act.put, List.setIfInBounds_toArray, List.set_cons_zero, List.set_cons_succ]
      refine take_list (i := 3) (v := ?_) rfl (by kernel_rfl) (by kernel_rfl) (by kernel_rfl) (fun _ _ _ h => h) (Or.inl ⟨by rfl, ?_⟩) hH ?_
      rotate_left
      · ((intro w hSw; (try dsimp only at hSw); go_simp); try with_reducible rfl)
      simp only [Act.put, List.setIfInBounds_toArray, List.set_cons_zero, List.set_cons_succ]
      refine take_list (i := 4) (v := ?_) rfl (by kernel_rfl) (by kernel_rfl) (by kernel_rfl) (fun _ _ _ h => h) (Or.inl ⟨by rfl, ?_⟩) hH ?_
      rotate_left
      · ((intro w hSw; (try dsimp only at hSw); go_simp); try with_reducible rfl)
      simp only [Act.put, List.setIfInBounds_toArray, List.set_cons_zero, List.set_cons_succ]
      refine wpAnyH_ready (rs := [5]) (by kernel_rfl) (by simp) ?_
      refine ready_list rfl (fun K hK => ?_)
      refine step_make_zero (by rfl) (.tmp 60) (.tmp 60) (by rfl) z (by rfl) (by rfl) (by omega) (fun w5 g5 b5 hg5 o5 => ?_)
      have c2 : w5.cell? ⟨m, 2, none⟩ = some (.pointer (some ⟨p, 0, none⟩)) := (S5.out.quiet o5).c2
      refine hK.out _ _ c2 (fun hH => ?_)
      clear hK K c2
      refine wpAnyH_ready (rs := [6]) (by kernel_rfl) (by simp) ?_
      refine ready_list rfl (fun K hK => ?_)
      go_simp
      refine (append_mo S5.out o5 (B4.out.big S5.out.ok) _ (zs z) (zeros_at b5) (fresh_at hg5) (by rw [zs_length]; omega)).mono ?_
      rintro e w6 ⟨rfl, s6⟩
      have S6 := Lib.hid s6
      have c2 : w6.cell? ⟨m, 2, none⟩ = some (.pointer (some ⟨p, 0, none⟩)) := s6.c2
      refine hK.out _ _ c2 (fun hH => ?_)
      clear hK K c2 s6 b5 hg5 o5 S5
      have k0 : (0 : Int) ≤ (k : Int) := by omega
      by_cases hr : (2 : Int) + ((zs z).length : Int) ≤ j.free - j.booked
      · have hc := acode_0 B4.out.dead (by rw [zs_length]; exact hz1) (by rw [zs_length]; exact hz2) hr
        rw [(added_0 hc).1] at S6
        rw [hc, (added_0 hc).2, errV_z rfl]
        have B6 := Lib.hid (show Bk n bk (j.put (zs z)) from B4.out.put (by rw [K4.out] at hr; omega))
        have K6 := Lib.hid (show (j.put (zs z)).booked = bk from K4.out)
        clear hc hr
        generalize (j.next : Int) = nx
        refine take_list (i := 7) (v := ?_) rfl (by kernel_rfl) (by kernel_rfl) (by kernel_rfl) (fun _ _ _ h => h) (Or.inl ⟨by rfl, ?_⟩) hH ?_
        rotate_left
        · ((intro w hSw; (try dsimp only at hSw); go_simp); try with_reducible rfl)
        simp only [Act.put, List.setIfInBounds_toArray, List.set_cons_zero, List.set_cons_succ]
        refine take_list (i := 8) (v := ?_) rfl (by kernel_rfl) (by kernel_rfl) (by kernel_rfl) (fun _ _ _ h => h) (Or.inl ⟨by rfl, ?_⟩) hH ?_
        rotate_left
        · ((intro w hSw; (try dsimp only at hSw); go_simp); try with_reducible rfl)
        simp only [Act.put, List.setIfInBounds_toArray, List.set_cons_zero, List.set_cons_succ]
        refine take_list (i := 9) (v := ?_) rfl (by kernel_rfl) (by kernel_rfl) (by kernel_rfl) (fun _ _ _ h => h) (Or.inl ⟨by rfl, ?_⟩) hH ?_
        rotate_left
        · ((intro w hSw; (try dsimp only at hSw); go_simp); try with_reducible rfl)
        simp only [Act.put, List.setIfInBounds_toArray, List.set_cons_zero, List.set_cons_succ]
        refine take_list (i := 10) (v := ?_) rfl (by kernel_rfl) (by kernel_rfl) (by kernel_rfl) (fun _ _ _ h => h) (Or.inl ⟨by rfl, ?_⟩) hH ?_
        rotate_left
        · ((intro w hSw; (try dsimp only at hSw); go_simp); try with_reducible rfl)
        simp only [Act.put, List.setIfInBounds_toArray, List.set_cons_zero, List.set_cons_succ]
        refine take_list (i := 11) (v := ?_) rfl (by kernel_rfl) (by kernel_rfl) (by kernel_rfl) (fun _ _ _ h => h) (Or.inl ⟨by rfl, ?_⟩) hH ?_
        rotate_left
        · ((intro w hSw; (try dsimp only at hSw); go_simp); try with_reducible rfl)
        simp only [Act.put, List.setIfInBounds_toArray, List.set_cons_zero, List.set_cons_succ]
        refine wpAnyH_done (by kernel_rfl) ?_ _
        clear hH
        go_wp2_with fail
        go_roundw
        case rel => exact ⟨k + 1, _, by go_num, by omega, S6.out, B6.out, K6.out⟩
        case measure => simp [intOf]; omega
      · have hc := acode_5 B4.out.dead (by rw [zs_length]; exact hz1) (by rw [zs_length]; exact hz2) hr
        rw [(added_n (by rw [hc]; decide)).1] at S6
        rw [hc, (added_n (by rw [hc]; decide)).2, errV_nz (by decide)]
        clear hc hr
        refine take_list (i := 7) (v := ?_) rfl (by kernel_rfl) (by kernel_rfl) (by kernel_rfl) (fun _ _ _ h => h) (Or.inl ⟨by rfl, ?_⟩) hH ?_
        rotate_left
        · ((intro w hSw; (try dsimp only at hSw); go_simp); try with_reducible rfl)
        simp only [Act.put, List.setIfInBounds_toArray, List.set_cons_zero, List.set_cons_succ]
        refine take_list (i := 8) (v := ?_) rfl (by kernel_rfl) (by kernel_rfl) (by kernel_rfl) (fun _ _ _ h => h) (Or.inl ⟨by rfl, ?_⟩) hH ?_
        rotate_left
        · ((intro w hSw; (try dsimp only at hSw); go_simp); try with_reducible rfl)
        simp only [Act.put, List.setIfInBounds_toArray, List.set_cons_zero, List.set_cons_succ]
        refine take_list (i := 9) (v := ?_) rfl (by kernel_rfl) (by kernel_rfl) (by kernel_rfl) (fun _ _ _ h => h) (Or.inl ⟨by rfl, ?_⟩) hH ?_
        rotate_left
        · ((intro w hSw; (try dsimp only at hSw); go_simp); try with_reducible rfl)
        simp only [Act.put, List.setIfInBounds_toArray, List.set_cons_zero, List.set_cons_succ]
        refine take_list (i := 10) (v := ?_) rfl (by kernel_rfl) (by kernel_rfl) (by kernel_rfl) (fun _ _ _ h => h) (Or.inl ⟨by rfl, ?_⟩) hH ?_
        rotate_left
        · ((intro w hSw; (try dsimp only at hSw); go_simp); try with_reducible rfl)
        simp only [Act.put, List.setIfInBounds_toArray, List.set_cons_zero, List.set_cons_succ]
        refine take_list (i := 11) (v := ?_) rfl (by kernel_rfl) (by kernel_rfl) (by kernel_rfl) (fun _ _ _ h => h) (Or.inl ⟨by rfl, ?_⟩) hH ?_
        rotate_left
        · ((intro w hSw; (try dsimp only at hSw); go_simp); try with_reducible rfl)
        simp only [Act.put, List.setIfInBounds_toArray, List.set_cons_zero, List.set_cons_succ]
        refine wpAnyH_done (by kernel_rfl) ?_ _
        clear hH
        go_wp2_with fail
        go_roundw
        case rel => exact ⟨k + 1, _, by go_num, by omega, S6.out, B4.out, K4.out⟩
        case measure => simp [intOf]; omega
    have hge : ¬ (k : Int) < (ls.length : Int) := by omega
    clear K4 V4 V1 hk hlt
    go_wp2_with fail
    go_loopw [12] (fun x wr2 => ∃ (l : Nat) (j : JL), x = .int .i64 l ∧ l ≤ 9870 ∧ JMo w1 wr2 m p q a2 d j ⟨1, 1, row0, false⟩ ∧ Bk n l j) (fun x _ => (intOf x).toNat)
    case atStart => exact ⟨bk, j, rfl, by omega, S4.out, B4.out⟩
    case round =>
      obtain ⟨l, j2, rfl, hl9, s6, b6⟩ := hrel
      have S6 := Lib.hid s6
      have B6 := Lib.hid b6
      clear s6 b6 S4 B4
      by_cases hgt : 2 < l
      · have hgt' : (2 : Int) < (l : Int) := by omega
        obtain ⟨kk, hkk⟩ : ∃ kk : Nat, kk = min (l - 2) 4096 := ⟨_, rfl⟩
        have hmin : (if (4096 : Int) < (l : Int) - 2 then (4096 : Int) else (l : Int) - 2) = (kk : Int) := by
          rw [hkk]
          split <;> omega
        have hk1 : 1 ≤ kk := by omega
        have hk2 : kk ≤ 4096 := by omega
        have hk3 : kk + 2 ≤ l := by omega
        clear hkk
        go_wp2_with fail
        have o7 : Only [] wr wr.drew := (Only.refl [] wr).drew
        have S7 := Lib.hid (S6.out.quiet o7)
        have c2 : wr.drew.cell? ⟨m, 2, none⟩ = some (.pointer (some ⟨p, 0, none⟩)) := S7.out.c2
        clear o7 S6 hmin
        refine wp_region_held_drew (S := fun w' => w'.cell? ⟨m, 2, none⟩ = some (.pointer (some ⟨p, 0, none⟩))) (by kernel_rfl) c2 (fun hH => ?_)
        refine take_list (i := 0) (v := ?_) rfl (by kernel_rfl) (by kernel_rfl) (by kernel_rfl) (fun _ _ _ h => h) (Or.inl ⟨by rfl, ?_⟩) hH ?_
        rotate_left
        · ((intro w hSw; (try dsimp only at hSw); go_simp); try with_reducible rfl)
        simp only [Act.put, List.setIfInBounds_toArray, List.set_cons_zero, List.set_cons_succ]
        refine take_list (i := 1) (v := ?_) rfl (by kernel_rfl) (by kernel_rfl) (by kernel_rfl) (fun _ _ _ h => h) (Or.inl ⟨by rfl, ?_⟩) hH ?_
        rotate_left
        · ((intro w hSw; (try dsimp only at hSw); go_simp); try with_reducible rfl)
        simp only [Act.put, List.setIfInBounds_toArray, List.set_cons_zero, List.set_cons_succ]
        refine take_list (i := 2) (v := ?_) rfl (by kernel_rfl) (by kernel_rfl) (by kernel_rfl) (fun _ _ _ h => h) (Or.inl ⟨by rfl, ?_⟩) hH ?_
        rotate_left
        · ((intro w hSw; (try dsimp only at hSw); go_simp); try with_reducible rfl)
        simp only [Act.put, List.setIfInBounds_toArray, List.set_cons_zero, List.set_cons_succ]
        refine take_list (i := 3) (v := ?_) rfl (by kernel_rfl) (by kernel_rfl) (by kernel_rfl) (fun _ _ _ h => h) (Or.inl ⟨by rfl, ?_⟩) hH ?_
        rotate_left
        · ((intro w hSw; (try dsimp only at hSw); go_simp); try with_reducible rfl)
        simp only [Act.put, List.setIfInBounds_toArray, List.set_cons_zero, List.set_cons_succ]
        refine take_list (i := 4) (v := ?_) rfl (by kernel_rfl) (by kernel_rfl) (by kernel_rfl) (fun _ _ _ h => h) (Or.inl ⟨by rfl, ?_⟩) hH ?_
        rotate_left
        · ((intro w hSw; (try dsimp only at hSw); go_simp); try with_reducible rfl)
        simp only [Act.put, List.setIfInBounds_toArray, List.set_cons_zero, List.set_cons_succ]
        refine wpAnyH_ready (rs := [5]) (by kernel_rfl) (by simp) ?_
        refine ready_list rfl (fun K hK => ?_)
        refine step_make_zero (by rfl) (.tmp 84) (.tmp 84) (by rfl) kk (by rfl) (by rfl) (by omega) (fun w8 g8 b8 hg8 o8 => ?_)
        have c2 : w8.cell? ⟨m, 2, none⟩ = some (.pointer (some ⟨p, 0, none⟩)) := (S7.out.quiet o8).c2
        refine hK.out _ _ c2 (fun hH => ?_)
        clear hK K c2
        refine wpAnyH_ready (rs := [6]) (by kernel_rfl) (by simp) ?_
        refine ready_list rfl (fun K hK => ?_)
        go_simp
        have hr : (2 : Int) + ((zs kk).length : Int) ≤ j2.free := by
          have := B6.out.room
          rw [zs_length]
          omega
        have hc := acode_0 B6.out.dead (by rw [zs_length]; exact hk1) (by rw [zs_length]; exact hk2) hr
        have hsp := spend_mo S7.out o8 (B6.out.big S7.out.ok) _ (zs kk) (zeros_at b8) (fresh_at hg8) (by rw [zs_length]; omega)
        rw [hc, (added_0 hc).1, (added_0 hc).2, errV_z rfl] at hsp
        refine hsp.mono ?_
        rintro e w9 ⟨rfl, s9⟩
        have S9 := Lib.hid s9
        have B9 := Lib.hid (show Bk n (l - (kk + 2)) (j2.put (zs kk)) from B6.out.put (by have := B6.out.room; rw [zs_length]; omega))
        have c2 : w9.cell? ⟨m, 2, none⟩ = some (.pointer (some ⟨p, 0, none⟩)) := s9.c2
        refine hK.out _ _ c2 (fun hH => ?_)
        clear hK K c2 s9 b8 hg8 o8 S7 hsp hc hr
        generalize (j2.next : Int) = nx
        refine take_list (i := 7) (v := ?_) rfl (by kernel_rfl) (by kernel_rfl) (by kernel_rfl) (fun _ _ _ h => h) (Or.inl ⟨by rfl, ?_⟩) hH ?_
        rotate_left
        · ((intro w hSw; (try dsimp only at hSw); go_simp); try with_reducible rfl)
        simp only [Act.put, List.setIfInBounds_toArray, List.set_cons_zero, List.set_cons_succ]
        refine take_list (i := 8) (v := ?_) rfl (by kernel_rfl) (by kernel_rfl) (by kernel_rfl) (fun _ _ _ h => h) (Or.inl ⟨by rfl, ?_⟩) hH ?_
        rotate_left
        · ((intro w hSw; (try dsimp only at hSw); go_simp); try with_reducible rfl)
        simp only [Act.put, List.setIfInBounds_toArray, List.set_cons_zero, List.set_cons_succ]
        refine take_list (i := 9) (v := ?_) rfl (by kernel_rfl) (by kernel_rfl) (by kernel_rfl) (fun _ _ _ h => h) (Or.inl ⟨by rfl, ?_⟩) hH ?_
        rotate_left
        · ((intro w hSw; (try dsimp only at hSw); go_simp); try with_reducible rfl)
        simp only [Act.put, List.setIfInBounds_toArray, List.set_cons_zero, List.set_cons_succ]
        refine take_list (i := 10) (v := ?_) rfl (by kernel_rfl) (by kernel_rfl) (by kernel_rfl) (fun _ _ _ h => h) (Or.inl ⟨by rfl, ?_⟩) hH ?_
        rotate_left
        · ((intro w hSw; (try dsimp only at hSw); go_simp); try with_reducible rfl)
        simp only [Act.put, List.setIfInBounds_toArray, List.set_cons_zero, List.set_cons_succ]
        refine take_list (i := 11) (v := ?_) rfl (by kernel_rfl) (by kernel_rfl) (by kernel_rfl) (fun _ _ _ h => h) (Or.inl ⟨by rfl, ?_⟩) hH ?_
        rotate_left
        · ((intro w hSw; (try dsimp only at hSw); go_simp); try with_reducible rfl)
        simp only [Act.put, List.setIfInBounds_toArray, List.set_cons_zero, List.set_cons_succ]
        refine wpAnyH_done (by kernel_rfl) ?_ _
        clear hH
        obtain ⟨l2, hl2⟩ : ∃ l2 : Nat, l2 = l - (kk + 2) := ⟨_, rfl⟩
        rw [← hl2] at B9
        have e2 : (l : Int) - ((kk : Int) + 2) = (l2 : Int) := by omega
        have L2 := Lib.hid (show l2 ≤ 9870 ∧ l2 < l from by omega)
        clear hl2
        go_wp2_with fail
        go_roundw
        case rel => exact ⟨l2, _, by first | rfl | (rw [e2]) | go_num, L2.out.1, S9.out, B9.out⟩
        case measure => simp [intOf]; have := L2.out; omega
      · have hgt' : ¬ (2 : Int) < (l : Int) := by omega
        go_wp2_with fail
        go_ret
        exact ⟨rfl, O1.out.trans S6.out.only (by simp)⟩

set_option maxRecDepth 100000 in
theorem jbooks_lifted (os : Os) (started : os.Started) (H : Type) (enc : TypeId × Value → H) :
    ReturnsInHanded {} Try.checked os 4 .any (Rows.journalBooksSpec.pre6 enc Try.prog Try.f4 Rows.journalBooksRow.domain false) (Rows.journalBooksSpec.post enc Try.prog Try.f4 false true false false) := by
  refine returnsInHanded_of_change (C := Try.checked) law_own started (by kernel_rfl) Try.func4
    (ChangeSpec.witness6 (enc := enc) (C := Try.checked) false ⟨#[], #[.int .i64 0, .int .i64 0, .slice none 0 0], []⟩ 8 (by kernel_rfl) (by kernel_rfl) (by kernel_rfl) (by kernel_rfl)) ?_
  intro W base args ds gs before hval0 hW hcnd _
  have hval : ∀ (j : Nat) t v, Try.f4.params[j]? = some t → args[j]? = some v → Value.okWide Try.prog W .any base t v := hval0
  have hW' := hW
  obtain ⟨p, q, hA0, hV, rfl, hfz, hnd⟩ := hW
  have hA : DataW.TrodAll enc Try.prog W 0 (fun _ => true) true Try.f4.params.toList args.toList ds p := hA0
  rw [Try.params4] at hA hval
  obtain ⟨v0, vs0, d0, ds0, p0, q0, hargs, rfl, rfl, h0, r0⟩ := trodAll_cons hA
  obtain ⟨v1, vs1, d1, ds1, p1, q1, rfl, rfl, rfl, h1, r1⟩ := trodAll_cons r0
  obtain ⟨v2, vs2, d2, ds2, p2, q2, rfl, rfl, rfl, h2, r2⟩ := trodAll_cons r1
  obtain ⟨rfl, rfl, rfl⟩ := trodAll_nil r2
  obtain rfl : args = #[v0, v1, v2] := by cases args; simp_all
  obtain ⟨rfl, rfl⟩ := trodVars_none hV
  obtain ⟨a0, rfl, rfl, rfl, w0⟩ := open_int Try.underlying3 (hval 0 3 v0 rfl rfl) h0
  obtain ⟨a1, rfl, rfl, rfl, w1⟩ := open_int Try.underlying3 (hval 1 3 v1 rfl rfl) h1
  have h2' := h2
  obtain ⟨sa2, sl2, sc2, rfl⟩ := okWide_slice Try.underlying32 (hval 2 32 v2 rfl rfl)
  obtain ⟨fuel2, hf2⟩ := h2
  obtain ⟨l2, hs2, _, hl2⟩ := open_nums (v := .slice sa2 sl2 sc2) hf2
  have hlt2 : ∀ x ∈ p2, x.block < W.heap.size := fun x hx => hW'.lt x (by simp [hx])
  clear hA0 hval0
  refine (jbooks_walk a0 a1 _ l2 W w0 w1 hs2 hl2).mono fun e W' ⟨he, hg⟩ => ?_
  subst he
  exact ⟨_, rfl, post_quiet (pa := ([] ++ ([] ++ (p2 ++ [])))) (pv := []) hW' hg (fun _ _ _ => (trodAll_cons_mk (shut_bool Try.underlying4 _) trodAll_mk0)) (fun sp hsp => (trodAll_cons_mk (shut_int Try.underlying3 w0) (trodAll_cons_mk (shut_int Try.underlying3 w1) (trodAll_cons_mk (arg_stays (by kernel_rfl) (of_decide_eq_true (by kernel_rfl)) h2' hg hlt2 (fun x hx => hsp x (by simp [hx]))) trodAll_mk0)))) (fun _ _ => rfl) (by simp) (ok_one (by kernel_rfl) rfl (okWide_bool_mk Try.underlying4 _))⟩

theorem jbooks_over : Rows.journalBooksRow.holds Try.pinned (OpenSpec.ofChange Rows.journalBooksSpec) :=
  OpenClaim.holds_of_wide 4 Try.f4 rfl rfl rfl rfl rfl rfl rfl ⟨rfl, rfl, rfl, rfl, rfl⟩ rfl rfl rfl rfl rfl (by kernel_rfl) Try.func4 (by kernel_rfl)
    (of_decide_eq_true (by kernel_rfl)) (by unfold Func.isWrapper; first | (rw [if_pos (by decide +kernel)]; kernel_rfl) | (rw [if_neg (by decide +kernel)]; exact ⟨rfl, rfl⟩))
    (fun os started H enc _ => jbooks_lifted os started H enc)

/-- The statement. -/
theorem jbooks_holds : Rows.JournalBooksSaid :=
  jbooks_over
#print axioms jbooks_holds
end Go.Proofs.Ytmjnbpcjpjefeaa
