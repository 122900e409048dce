/- Slots: Open; the errors side by side. -/
import Derived.Test.YtfnedeaemjchgaaGreatT3
namespace Go.Proofs.YtfnedeaemjchgaaGreat
open Go.RowKit Go.Maps
set_option linter.unusedSimpArgs false
set_option linter.unusedVariables false

/-- The greater of what was found so far and what a sector says. -/
def pick (x : Int × Sec) (y : Option (Int × Sec)) : Int × Sec := match y with
  | none => x
  | some q => if x.1 < q.1 then q else x
theorem pick_none (x : Int × Sec) : pick x none = x := rfl
theorem pick_some (x q : Int × Sec) : pick x (some q) = if x.1 < q.1 then q else x := rfl
def Disk.upto (d : Disk) (at_ : Int) : Nat → Int × Sec
  | 0 => (0, [])
  | k + 1 => pick (d.upto at_ k) (says (d.get (at_ + k)) k)
def Disk.op (d : Disk) (at_ : Int) : Int × Sec := d.upto at_ 2
def Disk.ocode (d : Disk) (at_ : Int) : Int := if fitB at_ d.size = false then 1 else if d.met.down = true then 3 else if (d.op at_).1 = 0 then 20 else 0
theorem upto_ok (d : Disk) (at_ : Int) : ∀ k, 0 ≤ (d.upto at_ k).1 ∧ (d.upto at_ k).1 ≤ 4611686018427387904 ∧ (d.upto at_ k).2.length ≤ 480
  | 0 => by simp [Disk.upto]
  | k + 1 => by
    have ih := upto_ok d at_ k
    unfold Disk.upto
    cases h : says (d.get (at_ + k)) k with
    | none => exact ih
    | some q =>
      obtain ⟨n, r⟩ := q
      have := says_inv h
      rw [pick_some]
      split
      · exact ⟨by simp; omega, by simp; omega, by simp; omega⟩
      · exact ih
def SL.of (at_ : Int) (x : Int × Sec) : SL := ⟨at_, x.1, x.2, false⟩

theorem Open_nil (at_ : Int) (w : World) : Calls Tryz.prog 57 #[.pointer none, .int .i64 at_] w fun e w' => e = .returned (.tuple #[.pointer none, err 1]) ∧ w = w' := by
  go_enter Tryz.func57, Tryz.ntmps57
  go_wp2_with fail
  refine (fits_nil _ _).mono ?_
  rintro e w' ⟨rfl, rfl⟩
  go_wp2_with fail
  go_ret2
  exact ⟨rfl, rfl⟩

theorem fit_at {g : Nat} {n c : Nat} (h : n ≤ c) (h2 : c ≤ 65536) : Fit (.slice (some ⟨g, 0, none⟩) n c) := fun a n' c' e => by
  cases e
  exact ⟨h, by unfold maxLen; omega⟩
set_option maxRecDepth 100000 in
set_option maxHeartbeats 1600000 in
theorem Open_any {w : World} {a : DA} {d : Disk} (at_ : Int) (hd : Dev w a d) :
    Calls Tryz.prog 57 #[.pointer (some ⟨a.p, 0, none⟩), .int .i64 at_] w (fun e w' => MadePost w a d (SL.of at_ (d.op at_)) (d.ocode at_) e w' ∧ Only [] w w') := by
  have HD := Lib.hid hd
  have hc := fits_dev a d at_ w hd
  have hsz := hd.hi
  clear hd
  cases ha : fitB at_ d.size
  · rw [ha] at hc
    have e1 : d.ocode at_ = 1 := by simp [Disk.ocode, ha]
    have E1 := Lib.hid e1
    clear e1 ha
    go_enter Tryz.func57, Tryz.ntmps57
    go_wp2_with fail
    refine hc.mono ?_
    rintro e w' ⟨rfl, rfl⟩
    go_wp2_with fail
    go_ret2
    exact ⟨⟨HD.out, Only.refl _ _, (fun h => by rw [E1.out] at h; cases h), (fun _ => by rw [E1.out]; rfl)⟩, Only.refl _ _⟩
  rw [ha] at hc
  have hat := fitB_iff.1 ha
  cases hdn : d.met.down
  rotate_left
  · have e1 : d.ocode at_ = 3 := by simp [Disk.ocode, ha, hdn]
    have E1 := Lib.hid e1
    have e2 : d.rcode at_ = 3 := by
      unfold Disk.rcode
      rw [inB_iff.2 ⟨hat.1, by omega⟩, hdn]
      simp
    have E2 := Lib.hid e2
    clear e1 e2 ha hdn
    go_enter Tryz.func57, Tryz.ntmps57
    go_wp2_with fail
    refine hc.mono ?_
    rintro e w' ⟨rfl, rfl⟩
    go_wp2_with fail
    have o1 : Only [] w (w.alloc (.cells #[.pointer (some ⟨a.p, 0, none⟩), .int .i64 at_, .int .i64 0, .slice none 0 0, .bool false] 106)) := (Only.refl [] w).alloc _
    have D1 := Lib.hid (HD.out.kept o1 (by simp))
    have O1 := Lib.hid o1
    clear o1
    refine wp_loop_rounds 1 ?_
    rw [rounds_succ]
    go_wp2_with fail
    refine (read_all at_ D1.out).mono ?_
    rintro e w2 ⟨v, rfl, _, _, _, _, o2⟩
    rw [E2.out]
    rw [show errV 3 = err 3 from rfl]
    have D2 := Lib.hid (D1.out.kept o2 (by simp))
    have O2 := Lib.hid (O1.out.trans o2 (by simp))
    clear o2 D1 O1
    go_wp2_with fail
    go_ret2
    exact ⟨⟨D2.out, O2.out.mono (by simp), (fun h => by rw [E1.out] at h; cases h), (fun _ => by rw [E1.out]; rfl)⟩, O2.out⟩
  have e1 : d.ocode at_ = if (d.op at_).1 = 0 then 20 else 0 := by simp [Disk.ocode, ha, hdn]
  have E1 := Lib.hid e1
  have HDN := Lib.hid hdn
  clear e1 ha hdn
  go_enter Tryz.func57, Tryz.ntmps57
  go_wp2_with fail
  refine hc.mono ?_
  rintro e w' ⟨rfl, rfl⟩
  go_wp2_with fail
  have o1 : Only [] w (w.alloc (.cells #[.pointer (some ⟨a.p, 0, none⟩), .int .i64 at_, .int .i64 0, .slice none 0 0, .bool false] 106)) := (Only.refl [] w).alloc _
  have s1 := Slot.fresh (w := w) (a := a) (at_ := at_) rfl
  generalize hp : w.heap.size = p at s1
  have HP := Lib.hid hp
  clear hp
  go_loopw [21] (fun i wr => ∃ (k : Nat) (v : Value), k ≤ 2 ∧ i = .int .i64 k ∧ Slot wr p a v (SL.of at_ (d.upto at_ k)) ∧ Only [] w wr ∧ ∀ g, v.ownBlock = some g → w.heap.size ≤ g) (fun i _ => 2 - (intOf i).toNat)
  case atStart => exact ⟨0, _, by omega, rfl, s1, o1, fun g h => by cases h⟩
  case round =>
    clear s1 o1
    obtain ⟨k, v, hk, rfl, hs, ho, hnew⟩ := hrel
    have S2 := Lib.hid hs
    have O2 := Lib.hid ho
    have N2 := Lib.hid hnew
    have c2 : wr.cell? ⟨p, 2, none⟩ = some (.int .i64 (d.upto at_ k).1) := hs.c2
    have k0 : (0 : Int) ≤ (k : Int) := by omega
    have hu := upto_ok d at_ k
    clear hs ho hnew
    by_cases hlt : k < 2
    · have k1 : (k : Int) < 2 := by omega
      have hwr : IntKind.i64.wrap (at_ + (k : Int)) = at_ + k := by
        rw [IntKind.wrap_i64]
        omega
      have hin : inB (at_ + (k : Int)) d.size = true := inB_iff.2 ⟨by omega, by omega⟩
      have hup : d.upto at_ (k + 1) = pick (d.upto at_ k) (says (d.get (at_ + k)) k) := rfl
      generalize hx : d.upto at_ k = x at S2 c2 hu hup
      obtain ⟨xn, xr⟩ := x
      dsimp only at c2 hu
      have HUP := Lib.hid hup
      clear hx hup
      go_wp2_with fail
      refine (Read_any a d (at_ + k) wr (HD.out.kept O2.out (by simp)) hin HDN.out).mono ?_
      rintro e w3 ⟨g3, rfl, b3, _, o3⟩
      have hl3 : (d.get (at_ + k)).length = 512 := HD.out.get_length _
      have B3 := b3.bytes 512
      rw [hl3] at B3
      have HB3 := Lib.hid B3
      have O3 := Lib.hid (O2.out.trans o3 (by simp))
      have S3 := Lib.hid (S2.out.quiet o3)
      clear B3 b3 o3 S2 O2 c2
      go_wp2_with fail
      refine (numbered_any _ (d.get (at_ + k)) w3 HB3.out (fit_at (Nat.le_refl _) (by decide)) (by omega)).mono ?_
      rintro e w4 ⟨hn0, hn1, o4⟩
      have O4 := Lib.hid (O3.out.trans o4 (by simp))
      have z4 : w.heap.size ≤ w3.heap.size := O3.out.size
      have s4 := S3.out.quiet o4
      have c2 : w4.cell? ⟨p, 2, none⟩ = some (.int .i64 xn) := s4.c2
      have f2 := s4.free 2
      have c3 : w4.cell? ⟨p, 3, none⟩ = some v := s4.c3
      have f3 := s4.free 3
      have S4 := Lib.hid s4
      clear O3 S3 o4 HB3
      cases hnum : numb (d.get (at_ + k)) with
      | none =>
        rw [hn0 hnum]
        have hsy : d.upto at_ (k + 1) = (xn, xr) := by
          rw [HUP.out]
          unfold says
          rw [hnum]
          rfl
        have HSY := Lib.hid hsy
        have hk2 : ((0 : Int) == (k : Int)) = true ∨ ((0 : Int) == (k : Int)) = false := by cases ((0 : Int) == (k : Int)) <;> simp
        clear hn0 hn1 hnum hsy s4
        rcases hk2 with hk2 | hk2
        · go_wp2_with fail
          go_roundw
          case rel => exact ⟨k + 1, v, by omega, by go_num, by rw [HSY.out]; exact S4.out, O4.out, N2.out⟩
          case measure => simp [intOf]; omega
        · go_wp2_with fail
          go_roundw
          case rel => exact ⟨k + 1, v, by omega, by go_num, by rw [HSY.out]; exact S4.out, O4.out, N2.out⟩
          case measure => simp [intOf]; omega
      | some nr =>
        obtain ⟨n, r⟩ := nr
        obtain ⟨a5, k5, rfl, h5⟩ := hn1 n r hnum
        have hnb := numb_inv hnum
        have htm := tmod_two (n := n) (by omega)
        have H5 := Lib.hid h5
        have HN := Lib.hid hnum
        clear hn0 hn1 hnum h5 s4
        by_cases hpar : n % 2 = (k : Int)
        rotate_left
        · have hsy : d.upto at_ (k + 1) = (xn, xr) := by
            rw [HUP.out]
            unfold says
            rw [HN.out]
            simp only
            rw [if_neg hpar]
            rfl
          have HSY := Lib.hid hsy
          have hpar' : (n % 2 == (k : Int)) = false := by simpa using hpar
          clear hsy hpar
          go_wp2_with fail
          go_roundw
          case rel => exact ⟨k + 1, v, by omega, by go_num, by rw [HSY.out]; exact S4.out, O4.out, N2.out⟩
          case measure => simp [intOf]; omega
        have hsy : d.upto at_ (k + 1) = if xn < n then (n, r) else (xn, xr) := by
          rw [HUP.out]
          unfold says
          rw [HN.out]
          simp only
          rw [if_pos hpar]
          rfl
        have HSY := Lib.hid hsy
        have hpar' : (n % 2 == (k : Int)) = true := by simpa using hpar
        clear hsy hpar
        by_cases hgt : xn < n
        rotate_left
        · go_wp2_with fail
          go_roundw
          case rel => exact ⟨k + 1, v, by omega, by go_num, by rw [HSY.out, if_neg (by omega)]; exact S4.out, O4.out, N2.out⟩
          case measure => simp [intOf]; omega
        · have hk := heap_cell (i := 3) (.slice a5 r.length k5) (heap_cell (i := 2) (.int .i64 n) S4.out.blk)
          have ho : Only [p] w4 ((w4.setCell ⟨p, 2, none⟩ (.int .i64 n)).setCell ⟨p, 3, none⟩ (.slice a5 r.length k5)) := ((Only.refl _ _).setCell (by simp) _).setCell (by simp) _
          have hne : ∀ g ∈ [p], (Value.slice a5 r.length k5).ownBlock ≠ some g := fun g hg e => by
            simp at hg
            subst hg
            obtain ⟨cur, hc5⟩ := H5.out.held.blk _ e
            have hb := S4.out.blk
            rw [hc5] at hb
            cases hb
          have s6 : Slot ((w4.setCell ⟨p, 2, none⟩ (.int .i64 n)).setCell ⟨p, 3, none⟩ (.slice a5 r.length k5)) p a (.slice a5 r.length k5) (SL.of at_ (n, r)) :=
            ⟨hk, H5.out.held.kept ho hne, by simp only [SL.of]; omega, by simp only [SL.of]; omega, by simp only [SL.of]; omega⟩
          have o6 := O4.out.trans ho (fun g hg => by simp at hg; subst hg; exact .inr (Nat.le_of_eq HP.out))
          have S6 := Lib.hid s6
          have O6 := Lib.hid o6
          clear s6 o6 hk ho hne
          go_wp2_with fail
          go_roundw
          case rel => exact ⟨k + 1, _, by omega, by go_num, by rw [HSY.out, if_pos hgt]; exact S6.out, O6.out, fun g hg => Nat.le_trans z4 (H5.out.lt hg).1⟩
          case measure => simp [intOf]; omega
    · obtain rfl : k = 2 := by omega
      have hop : d.op at_ = d.upto at_ 2 := rfl
      rw [← hop] at S2 c2 hu
      generalize hxop : d.op at_ = x at S2 c2 hu E1
      obtain ⟨xn, xr⟩ := x
      have HX := Lib.hid hxop
      clear hxop hop
      dsimp only at c2 hu E1
      by_cases h0 : xn = 0
      · rw [if_pos h0] at E1
        rw [h0] at c2
        go_wp2_with fail
        go_ret2
        exact ⟨⟨HD.out.kept O2.out (by simp), O2.out.mono (by simp), (fun h => by rw [E1.out] at h; cases h), (fun _ => by rw [E1.out]; rfl)⟩, O2.out⟩
      · rw [if_neg h0] at E1
        have h0' : (xn == 0) = false := by simpa using h0
        go_wp2_with fail
        go_ret2
        exact ⟨⟨HD.out.kept O2.out (by simp), O2.out.mono (by simp), (fun _ => ⟨p, v, rfl, by rw [HX.out]; exact S2.out, Nat.le_of_eq HP.out, N2.out⟩), (fun h => absurd E1.out h)⟩, O2.out⟩
end Go.Proofs.YtfnedeaemjchgaaGreat
