/- Slots: Format, Open. -/
import Derived.Test.YtfnedeaemjchgaaGreatT2
namespace Go.Proofs.YtfnedeaemjchgaaGreat
open Go.RowKit Go.Maps
set_option linter.unusedSimpArgs false
set_option linter.unusedVariables false

theorem zeros_512 : zeros.length = 512 := zeros_length
def SL.at0 (at_ : Int) : SL := ⟨at_, 0, [], false⟩
theorem SL.at0_place (at_ : Int) : (SL.at0 at_).place = at_ + 1 := rfl
theorem SL.at0_sec (at_ : Int) (r : Sec) : (SL.at0 at_).sec r = rowSec 1 r := rfl
theorem SL.at0_put (at_ : Int) (r : Sec) : (SL.at0 at_).put r = ⟨at_, 1, r, false⟩ := rfl
def Disk.fcode (d : Disk) (at_ : Int) (r : Sec) : Int := if fitB at_ d.size = false then 1 else if 480 < r.length then 2 else if d.code at_ 512 = 0 then (d.wr at_ zeros).lcode (at_ + 1) (rowSec 1 r) else d.code at_ 512
def Disk.fm (d : Disk) (at_ : Int) (r : Sec) : Disk := if fitB at_ d.size = false then d else if 480 < r.length then d else if d.code at_ 512 = 0 then (d.wr at_ zeros).ly (at_ + 1) (rowSec 1 r) else d.wr at_ zeros
structure MadePost (w : World) (a : DA) (d' : Disk) (s : SL) (c : Int) (e : Ending) (w' : World) : Prop where
  dev : Dev w' a d'
  only : Only a.bl w w'
  yes : c = 0 → ∃ p v, e = .returned (.tuple #[.pointer (some ⟨p, 0, none⟩), .nilIface]) ∧ Slot w' p a v s ∧ w.heap.size ≤ p ∧ ∀ g, v.ownBlock = some g → w.heap.size ≤ g
  no : c ≠ 0 → e = .returned (.tuple #[.pointer none, err c])
theorem wr_size (d : Disk) (k : Int) (l : Sec) : (d.wr k l).size = d.size := by
  unfold Disk.wr
  split
  · rfl
  · split <;> rfl
theorem Slot.fresh {w : World} {a : DA} {at_ : Int} {p : Nat} (hp : w.heap.size = p) : Slot (w.alloc (.cells #[.pointer (some ⟨a.p, 0, none⟩), .int .i64 at_, .int .i64 0, .slice none 0 0, .bool false] 106)) p a (.slice none 0 0) (SL.at0 at_) := by
  subst hp
  exact ⟨heap_new w _, ⟨bytes_nil _ _, fun g hg => by cases hg⟩, by simp [SL.at0], by simp [SL.at0], by simp [SL.at0]⟩

theorem Format_nil (at_ : Int) (v : Value) (w : World) : Calls Tryz.prog 45 #[.pointer none, .int .i64 at_, v] w fun e w' => e = .returned (.tuple #[.pointer none, err 1]) ∧ w = w' := by
  go_enter Tryz.func45, Tryz.ntmps45
  go_wp2_with fail
  refine (fits_nil _ _).mono ?_
  rintro e w' ⟨rfl, rfl⟩
  go_wp2_with fail
  go_ret2
  exact ⟨rfl, rfl⟩

set_option maxRecDepth 100000 in
set_option maxHeartbeats 1600000 in
theorem Format_any {w : World} {a : DA} {d : Disk} (at_ : Int) (rv : Value) (r : Sec) (hd : Dev w a d) (hr : Bytes w rv r) (hrl : r.length ≤ 4611686018427387904) :
    Calls Tryz.prog 45 #[.pointer (some ⟨a.p, 0, none⟩), .int .i64 at_, rv] w (MadePost w a (d.fm at_ r) ⟨at_, 1, r, false⟩ (d.fcode at_ r)) := by
  obtain ⟨ra, rc, rfl, -⟩ := id hr
  have HR := Lib.hid hr
  have HD := Lib.hid hd
  have hc := fits_dev a d at_ w hd
  have hsz := hd.hi
  clear hr hd
  cases ha : fitB at_ d.size
  · rw [ha] at hc
    have e1 : d.fcode at_ r = 1 := by simp [Disk.fcode, ha]
    have e2 : d.fm at_ r = d := by simp [Disk.fm, ha]
    have E1 := Lib.hid e1
    have E2 := Lib.hid e2
    clear e1 e2 ha
    go_enter Tryz.func45, Tryz.ntmps45
    go_wp2_with fail
    refine hc.mono ?_
    rintro e w' ⟨rfl, rfl⟩
    go_wp2_with fail
    go_ret2
    exact ⟨by rw [E2.out]; exact HD.out, Only.refl _ _, (fun h => by rw [E1.out] at h; cases h), (fun _ => by rw [E1.out]; rfl)⟩
  rw [ha] at hc
  have hat := fitB_iff.1 ha
  by_cases hl : 480 < r.length
  · have hl' : (480 : Int) < (r.length : Int) := by omega
    have e1 : d.fcode at_ r = 2 := by simp [Disk.fcode, ha, hl]
    have e2 : d.fm at_ r = d := by simp [Disk.fm, ha, hl]
    have E1 := Lib.hid e1
    have E2 := Lib.hid e2
    clear e1 e2 ha
    go_enter Tryz.func45, Tryz.ntmps45
    go_wp2_with fail
    refine hc.mono ?_
    rintro e w' ⟨rfl, rfl⟩
    go_wp2_with fail
    go_ret2
    exact ⟨by rw [E2.out]; exact HD.out, Only.refl _ _, (fun h => by rw [E1.out] at h; cases h), (fun _ => by rw [E1.out]; rfl)⟩
  have hl' : ¬ (480 : Int) < (r.length : Int) := by omega
  have e1 : d.fcode at_ r = if d.code at_ 512 = 0 then (d.wr at_ zeros).lcode (at_ + 1) (rowSec 1 r) else d.code at_ 512 := by simp [Disk.fcode, ha, hl]
  have e2 : d.fm at_ r = if d.code at_ 512 = 0 then (d.wr at_ zeros).ly (at_ + 1) (rowSec 1 r) else d.wr at_ zeros := by simp [Disk.fm, ha, hl]
  have E1 := Lib.hid e1
  have E2 := Lib.hid e2
  have HA := Lib.hid ha
  clear e1 e2 ha
  go_enter Tryz.func45, Tryz.ntmps45
  go_wp2_with fail
  refine hc.mono ?_
  rintro e w' ⟨rfl, rfl⟩
  go_wp2_with (refine wpList_make512 rfl rfl ?_; intro w1 g1 b1 hg1 o1)
  have o2 : Only [] w (w1.alloc (.cells #[.slice (some ⟨g1, 0, none⟩) 512 512] 27)) := o1.alloc _
  have D2 := Lib.hid (HD.out.kept o2 (by simp))
  have P2 := Lib.hid (parts_one b1 zeros_length)
  have R2 := Lib.hid (HR.out.kept o2 (clean_nil _))
  have O2 := Lib.hid o2
  clear o2 b1 o1 hg1 HD HR
  refine (write_all at_ _ [zeros] D2.out P2.out (fits_one zeros_length)).mono ?_
  rintro e w3 ⟨rfl, d3, o3⟩
  rw [show [zeros].flatten = zeros from by simp] at d3 ⊢
  rw [zeros_512]
  have R3 := Lib.hid (R2.out.keptOff o3 (fun x n c e h0 hm => by
    obtain ⟨x', cap, e2, hcc⟩ := R2.out
    rw [e2] at e
    cases e
    obtain ⟨b, off, e3, hcell⟩ := hcc 0 r[0] (List.getElem?_eq_getElem h0)
    cases e3
    exact D2.out.clean _ _ hcell (.inl ⟨_, rfl⟩) hm))
  have D3 := Lib.hid d3
  have O3 := Lib.hid ((O2.out.mono (T := a.bl) (by simp)).trans o3 (fun k hk => .inl hk))
  clear d3 o3 D2 P2 R2 O2
  by_cases hcz : d.code at_ 512 = 0
  rotate_left
  · rw [errV_nz hcz]
    go_wp2_with fail
    go_ret2
    exact ⟨by rw [E2.out, if_neg hcz]; exact D3.out, O3.out, (fun h => absurd h (by rw [E1.out, if_neg hcz]; exact hcz)), (fun _ => by rw [E1.out, if_neg hcz]; rfl)⟩
  rw [errV_z hcz]
  rw [if_pos hcz] at E1 E2
  go_wp2_with fail
  have S4 := Lib.hid (Slot.fresh (w := w3) (a := a) (at_ := at_) rfl)
  have o4 : Only [] w3 (w3.alloc (.cells #[.pointer (some ⟨a.p, 0, none⟩), .int .i64 at_, .int .i64 0, .slice none 0 0, .bool false] 106)) := (Only.refl [] w3).alloc _
  have D4 := Lib.hid (D3.out.kept o4 (by simp))
  have R4 := Lib.hid (R3.out.kept o4 (clean_nil _))
  have O4 := Lib.hid (O3.out.trans o4 (by simp))
  have Z4 := Lib.hid (show w.heap.size ≤ w3.heap.size from O3.out.size)
  clear o4 D3 R3 O3
  refine (lay_any _ r S4.out D4.out R4.out (by omega) (by simp [SL.at0]) (by rw [wr_size]; exact HA.out)).mono ?_
  rintro e w5 ⟨rfl, d5, o5, hy, hn⟩
  rw [SL.at0_place, SL.at0_sec] at d5 hy hn ⊢
  rw [SL.at0_put] at hy
  have o6 : Only a.bl w w5 := O4.out.trans o5 (fun k hk => by
    simp only [SA, List.mem_cons] at hk
    rcases hk with rfl | hk
    · exact .inr Z4.out
    · exact .inl hk)
  have D5 := Lib.hid d5
  have O6 := Lib.hid o6
  by_cases hcz2 : (d.wr at_ zeros).lcode (at_ + 1) (rowSec 1 r) = 0
  rotate_left
  · rw [errV_nz hcz2]
    clear d5 o5 hy hn o6 S4 D4 R4
    go_wp2_with fail
    go_ret2
    exact ⟨by rw [E2.out]; exact D5.out, O6.out, (fun h => absurd h (by rw [E1.out]; exact hcz2)), (fun _ => by rw [E1.out]; rfl)⟩
  · obtain ⟨v5, s5, hnew⟩ := hy hcz2
    rw [errV_z hcz2]
    have S5 := Lib.hid s5
    have N5 := Lib.hid (fun g (hg : v5.ownBlock = some g) => Nat.le_trans O4.out.size (hnew g hg))
    clear d5 o5 hy hn o6 S4 D4 R4 s5 hnew
    go_wp2_with fail
    go_ret2
    exact ⟨by rw [E2.out]; exact D5.out, O6.out, fun _ => ⟨_, v5, rfl, S5.out, Z4.out, N5.out⟩, fun h => absurd (E1.out.trans hcz2) h⟩
end Go.Proofs.YtfnedeaemjchgaaGreat
