/- Slots: lay, Save. -/
import Derived.Test.YtfnedeaemjchgaaGreatAll
import Derived.Test.YtfnedeaemjchgaaGreatT1
namespace Go.Proofs.YtfnedeaemjchgaaGreat
open Go.RowKit Go.Maps
set_option linter.unusedSimpArgs false
set_option linter.unusedVariables false

/-! ### a sector is written, and the device synced -/
def Disk.lcode (d : Disk) (k : Int) (l : Sec) : Int := if d.code k l.length = 0 then (d.wr k l).scode else d.code k l.length
def Disk.ly (d : Disk) (k : Int) (l : Sec) : Disk := if d.code k l.length = 0 then (d.wr k l).sy else d.wr k l
theorem Disk.code_in {d : Disk} {k : Int} {l : Sec} (hk : inB k d.size = true) (hl : l.length = 512) : d.code k l.length = if d.met.off = true then 3 else 0 := by
  unfold Disk.code
  rw [hk, hl]
  simp
theorem Disk.code_03 {d : Disk} {k : Int} {l : Sec} (hk : inB k d.size = true) (hl : l.length = 512) : d.code k l.length = 0 ∨ d.code k l.length = 3 := by
  rw [Disk.code_in hk hl]
  cases d.met.off <;> simp
theorem Disk.scode_03 (d : Disk) : d.scode = 0 ∨ d.scode = 3 := by
  unfold Disk.scode
  cases d.met.off <;> simp
theorem Disk.lcode_03 {d : Disk} {k : Int} {l : Sec} (hk : inB k d.size = true) (hl : l.length = 512) : d.lcode k l = 0 ∨ d.lcode k l = 3 := by
  unfold Disk.lcode
  split
  · exact Disk.scode_03 _
  · exact Disk.code_03 hk hl
theorem errV_nz {c : Int} (h : c ≠ 0) : errV c = err c := if_neg h
theorem errV_z {c : Int} (h : c = 0) : errV c = .nilIface := if_pos h

/-- The slots behind a row that holds. -/
def SL.put (s : SL) (r : Sec) : SL := { s with n := s.n + 1, row := r }
def SL.die (s : SL) (b : Bool) : SL := { s with cut := b }
/-- Where the next row stands, and its sector. -/
def SL.place (s : SL) : Int := s.at_ + (s.n + 1) % 2
def SL.sec (s : SL) (r : Sec) : Sec := rowSec (s.n + 1) r

/-- What turns: the slots' own block and the device. -/
def SA (p : Nat) (a : DA) : List Nat := p :: a.bl

structure LayPost (w : World) (p : Nat) (a : DA) (v : Value) (s : SL) (d : Disk) (r : Sec) (e : Ending) (w' : World) : Prop where
  ans : e = .returned (errV (d.lcode s.place (s.sec r)))
  dev : Dev w' a (d.ly s.place (s.sec r))
  only : Only (SA p a) w w'
  yes : d.lcode s.place (s.sec r) = 0 → ∃ v', Slot w' p a v' (s.put r) ∧ ∀ g, v'.ownBlock = some g → w.heap.size ≤ g
  no : d.lcode s.place (s.sec r) ≠ 0 → Slot w' p a v s

theorem tmod_two {n : Int} (h : 0 ≤ n) : n.tmod 2 = n % 2 := Int.tmod_eq_emod_of_nonneg h
theorem slot_new {w : World} {p : Nat} {a : DA} {v : Value} {s : SL} (h : Slot w p a v s) (b : Bool) : Slot (w.setCell ⟨p, 4, none⟩ (.bool b)) p a v (s.die b) := by
  have hk := heap_cell (i := 4) (.bool b) h.blk
  have ho : Only [p] w (w.setCell ⟨p, 4, none⟩ (.bool b)) := (Only.refl _ _).setCell (by simp) _
  refine ⟨hk, h.row.kept ho (fun k hk' e => ?_), h.lo, h.hi, h.len⟩
  simp at hk'
  subst hk'
  obtain ⟨cur, hc⟩ := h.row.blk _ e
  have hb := h.blk
  rw [hc] at hb
  cases hb

theorem slot_put {w : World} {p : Nat} {a : DA} {v v' : Value} {s : SL} {r : Sec} (h : Slot w p a v s) (hv : Held w v' r) (hn : s.n < 4611686018427387904) (hl : r.length ≤ 480) :
    Slot ((w.setCell ⟨p, 2, none⟩ (.int .i64 (s.n + 1))).setCell ⟨p, 3, none⟩ v') p a v' (s.put r) := by
  have hk := heap_cell (i := 3) v' (heap_cell (i := 2) (.int .i64 (s.n + 1)) h.blk)
  have ho : Only [p] w ((w.setCell ⟨p, 2, none⟩ (.int .i64 (s.n + 1))).setCell ⟨p, 3, none⟩ v') := ((Only.refl _ _).setCell (by simp) _).setCell (by simp) _
  have hlo := h.lo
  refine ⟨hk, hv.kept ho (fun k hk' e => ?_), by simp only [SL.put]; omega, by simp only [SL.put]; omega, hl⟩
  simp at hk'
  subst hk'
  obtain ⟨cur, hc⟩ := hv.blk _ e
  have hb := h.blk
  rw [hc] at hb
  cases hb
/-- Bytes lie in no slots' own block, and in no device. -/
theorem off_slot {w : World} {p : Nat} {a : DA} {v rv : Value} {s : SL} {d : Disk} {r : Sec} (h : Slot w p a v s) (hd : Dev w a d) (hr : Bytes w rv r) : Off rv (SA p a) := by
  intro x n c e hn hm
  obtain ⟨x', cap, e2, hc⟩ := hr
  rw [e2] at e
  cases e
  obtain ⟨b, off, e3, hcell⟩ := hc 0 r[0] (List.getElem?_eq_getElem hn)
  cases e3
  simp only [SA, List.mem_cons] at hm
  rcases hm with rfl | hm
  · have hb := h.blk
    unfold World.cell? at hcell
    rw [show w.heap[b]? = _ from hb] at hcell
    dsimp only at hcell
    have hm : Value.int .u8 (r[0].toNat : Int) ∈ #[Value.pointer (some ⟨a.p, 0, none⟩), .int .i64 s.at_, .int .i64 s.n, v, .bool s.cut] := by
      rw [Array.mem_iff_getElem?]
      exact ⟨_, hcell⟩
    obtain ⟨_, _, ev, _⟩ := h.row.bytes
    simp [ev] at hm
  · exact hd.clean _ _ hcell (.inl ⟨_, rfl⟩) hm

theorem nums_one (n : Int) : nums [n] = num n := by simp [nums]
theorem put_one (n : Int) (w : World) (hn : (Lit.int .i64 n).wf = true) :
    Calls Tryz.prog 65 #[.slice none 0 0, .slice (some ⟨w.heap.size, 0, none⟩) 1 1] (w.alloc (.cells #[.int .i64 n] 3)) fun e w' => ∃ a cap, e = .returned (.slice a (num n).length cap) ∧ Own w' w.heap.size (.slice a (num n).length cap) (num n) ∧ Only [] w w' := by
  refine (Put_any (.slice none 0 0) [] _ [n] _ (bytes_nil _ _) (ints_one w n hn) (by simp) (by simp)).mono ?_
  rintro e w' ⟨a, cap, rfl, h, o⟩
  simp only [nums_one, List.nil_append, List.length_nil, Nat.zero_add] at h ⊢
  exact ⟨a, cap, rfl, h.mono (by simp), ((Only.refl [] w).alloc _).trans o (by simp)⟩

set_option maxRecDepth 100000 in
set_option maxHeartbeats 1600000 in
theorem lay_any {w : World} {p : Nat} {a : DA} {v : Value} {s : SL} {d : Disk} (rv : Value) (r : Sec) (h : Slot w p a v s) (hd : Dev w a d) (hr : Bytes w rv r) (hl : r.length ≤ 480) (hn : s.n < 4611686018427387904) (ha : fitB s.at_ d.size = true) :
    Calls Tryz.prog 64 #[.pointer (some ⟨p, 0, none⟩), rv] w (LayPost w p a v s d r) := by
  have hat := fitB_iff.1 ha
  have hoff := off_slot h hd hr
  have hhi := hd.hi
  have hlo := h.lo
  have hnum := inRow_len (n := s.n + 1) (r := r) (by omega) (by omega) hl
  have hsl : (s.sec r).length = 512 := rowSec_length (by omega) (by omega) hl
  have hm0 := Int.emod_nonneg (s.n + 1) (show (2 : Int) ≠ 0 by omega)
  have hm1 := Int.emod_lt_of_pos (s.n + 1) (show (0 : Int) < 2 by omega)
  have hpl : inB s.place d.size = true := inB_iff.2 ⟨by unfold SL.place; omega, by unfold SL.place; omega⟩
  have hpe : IntKind.i64.wrap (s.at_ + (s.n + 1) % 2) = s.place := by
    rw [IntKind.wrap_i64]
    unfold SL.place
    omega
  have htm := tmod_two (n := s.n + 1) (by omega)
  have c0 := h.c0
  have c1 := h.c1
  have c2 := h.c2
  obtain ⟨ra, rc, rfl, -⟩ := id hr
  have HR := Lib.hid hr
  have H := Lib.hid h
  have HD := Lib.hid hd
  have HPL := Lib.hid hpl
  have HPE := Lib.hid hpe
  have HSL := Lib.hid hsl
  have HNUM := Lib.hid hnum
  have HOFF := Lib.hid hoff
  clear hr h hd ha hpl hpe hsl hnum hoff
  go_enter Tryz.func64, Tryz.ntmps64
  go_wp2_with fail
  refine (put_one (s.n + 1) w (WalkArith.wf_i64 (by omega))).mono ?_
  rintro e w1 ⟨a1, k1, rfl, h1, o1⟩
  have H1 := Lib.hid h1
  have O1 := Lib.hid o1
  clear h1 o1
  go_wp2_with fail
  refine (PutRow_any _ (num (s.n + 1)) _ r w1 H1.out.bytes (HR.out.kept O1.out (clean_nil _)) (by have := HNUM.out; simp [inRow] at this; omega) (by omega)).mono ?_
  rintro e w2 ⟨a2, k2, rfl, h2, o2⟩
  have e2 : (num (s.n + 1)).length + (rowB r).length = (inRow (s.n + 1) r).length := by simp [inRow]
  rw [e2] at h2 ⊢
  have H2 := Lib.hid h2
  have O2 := Lib.hid (O1.out.trans o2 (by simp))
  clear h2 o2 H1 O1 e2
  go_wp2_with fail
  refine (Box_any 512 _ [inRow (s.n + 1) r] _ (by decide) (by decide) (parts_made H2.out.bytes rfl) (by simp) (by have := HNUM.out; simp; omega) (by have := HNUM.out; simp [total]; omega)).mono ?_
  rintro e w3 ⟨g3, rfl, b3, hg3, o3⟩
  have B3 := Lib.hid (show BBlk w3 g3 (s.sec r) from by simpa [SL.sec, rowSec] using b3)
  have O3 := Lib.hid ((O2.out.alloc _).trans o3 (by simp))
  have G3 := Lib.hid (show w.heap.size ≤ g3 from Nat.le_trans (Nat.le_trans O2.out.size (by simp)) hg3)
  clear b3 hg3 o3 O2 H2
  go_wp2_with fail
  have S3 := H.out.quiet O3.out
  have c0 : w3.drew.cell? ⟨p, 0, none⟩ = some (.pointer (some ⟨a.p, 0, none⟩)) := S3.c0
  have c1 : w3.drew.cell? ⟨p, 1, none⟩ = some (.int .i64 s.at_) := S3.c1
  have D4 := Lib.hid ((HD.out.kept O3.out (by simp)).kept (Only.refl [] w3).drew (by simp))
  have S4 := Lib.hid (S3.quiet (Only.refl [] w3).drew)
  have R4 := Lib.hid ((HR.out.kept O3.out (clean_nil _)).kept (Only.refl [] w3).drew (clean_nil _))
  have B4 := Lib.hid (show BBlk w3.drew g3 (s.sec r) from B3.out)
  clear S3 B3 HR H HD
  refine wp_region_held_drew (S := fun w' => w'.cell? ⟨p, 0, none⟩ = some (.pointer (some ⟨a.p, 0, none⟩)) ∧ w'.cell? ⟨p, 1, none⟩ = some (.int .i64 s.at_)) (by kernel_rfl) ⟨c0, c1⟩ (fun hH => ?_)
  clear c0 c1
  refine take_list (i := 0) (v := ?_) rfl (by kernel_rfl) (by kernel_rfl) (by kernel_rfl) (fun _ _ _ h => h) (Or.inl ⟨by rfl, ?_⟩) hH ?_
  rotate_left
  · ((intro w hSw; (try dsimp only at hSw); go_simp); try with_reducible rfl)
  simp only [Act.put, List.setIfInBounds_toArray, List.set_cons_zero, List.set_cons_succ]
  refine take_list (i := 1) (v := ?_) rfl (by kernel_rfl) (by kernel_rfl) (by kernel_rfl) (fun _ _ _ h => h) (Or.inl ⟨by rfl, ?_⟩) hH ?_
  rotate_left
  · ((intro w hSw; (try dsimp only at hSw); go_simp); try with_reducible rfl)
  simp only [Act.put, List.setIfInBounds_toArray, List.set_cons_zero, List.set_cons_succ]
  refine take_list (i := 2) (v := ?_) rfl (by kernel_rfl) (by kernel_rfl) (by kernel_rfl) (fun _ _ _ h => h) (Or.inl ⟨by rfl, ?_⟩) hH ?_
  rotate_left
  · ((intro w hSw; (try dsimp only at hSw); go_simp); try with_reducible rfl)
  simp only [Act.put, List.setIfInBounds_toArray, List.set_cons_zero, List.set_cons_succ]
  refine take_list (i := 3) (v := ?_) rfl (by kernel_rfl) (by kernel_rfl) (by kernel_rfl) (fun _ _ _ h => h) (Or.inl ⟨by rfl, ?_⟩) hH ?_
  rotate_left
  · ((intro w hSw; (try dsimp only at hSw); go_simp); try with_reducible rfl)
  simp only [Act.put, List.setIfInBounds_toArray, List.set_cons_zero, List.set_cons_succ]
  refine take_list (i := 4) (v := ?_) rfl (by kernel_rfl) (by kernel_rfl) (by kernel_rfl) (fun _ _ _ h => h) (Or.inl ⟨by rfl, ?_⟩) hH ?_
  rotate_left
  · ((intro w hSw; (try dsimp only at hSw); go_simp); try with_reducible rfl)
  simp only [Act.put, List.setIfInBounds_toArray, List.set_cons_zero, List.set_cons_succ]
  refine take_list (i := 5) (v := ?_) rfl (by kernel_rfl) (by kernel_rfl) (by kernel_rfl) (fun _ _ _ h => h) (Or.inl ⟨by rfl, ?_⟩) hH ?_
  rotate_left
  · ((intro w hSw; (try dsimp only at hSw); go_simp); try with_reducible rfl)
  simp only [Act.put, List.setIfInBounds_toArray, List.set_cons_zero, List.set_cons_succ]
  refine take_list (i := 6) (v := ?_) rfl (by kernel_rfl) (by kernel_rfl) (by kernel_rfl) (fun _ _ _ h => h) (Or.inl ⟨by rfl, ?_⟩) hH ?_
  rotate_left
  · ((intro w hSw; (try dsimp only at hSw); go_simp); try with_reducible rfl)
  simp only [Act.put, List.setIfInBounds_toArray, List.set_cons_zero, List.set_cons_succ]
  refine take_list (i := 7) (v := ?_) rfl (by kernel_rfl) (by kernel_rfl) (by kernel_rfl) (fun _ _ _ h => h) (Or.inl ⟨by rfl, ?_⟩) hH ?_
  rotate_left
  · ((intro w hSw; (try dsimp only at hSw); go_simp); try with_reducible rfl)
  simp only [Act.put, List.setIfInBounds_toArray, List.set_cons_zero, List.set_cons_succ]
  refine take_list (i := 8) (v := ?_) rfl (by kernel_rfl) (by kernel_rfl) (by kernel_rfl) (fun _ _ _ h => h) (Or.inl ⟨by rfl, ?_⟩) hH ?_
  rotate_left
  · ((intro w hSw; (try dsimp only at hSw); go_simp); try with_reducible rfl)
  simp only [Act.put, List.setIfInBounds_toArray, List.set_cons_zero, List.set_cons_succ]
  refine take_list (i := 9) (v := ?_) rfl (by kernel_rfl) (by kernel_rfl) (by kernel_rfl) (fun _ _ _ h => h) (Or.inl ⟨by rfl, ?_⟩) hH ?_
  rotate_left
  · ((intro w hSw; (try dsimp only at hSw); go_simp); try with_reducible rfl)
  simp only [Act.put, List.setIfInBounds_toArray, List.set_cons_zero, List.set_cons_succ]
  refine take_list (i := 10) (v := ?_) rfl (by kernel_rfl) (by kernel_rfl) (by kernel_rfl) (fun _ _ _ h => h) (Or.inl ⟨by rfl, ?_⟩) hH ?_
  rotate_left
  · ((intro w hSw; (try dsimp only at hSw); go_simp); try with_reducible rfl)
  simp only [Act.put, List.setIfInBounds_toArray, List.set_cons_zero, List.set_cons_succ]
  refine take_list (i := 11) (v := ?_) rfl (by kernel_rfl) (by kernel_rfl) (by kernel_rfl) (fun _ _ _ h => h) (Or.inl ⟨by rfl, ?_⟩) hH ?_
  rotate_left
  · ((intro w hSw; (try dsimp only at hSw); go_simp); try with_reducible rfl)
  simp only [Act.put, List.setIfInBounds_toArray, List.set_cons_zero, List.set_cons_succ]
  refine wpAnyH_ready (rs := [12]) (by kernel_rfl) (by simp) ?_
  refine ready_list rfl (fun K hK => ?_)
  go_simp
  have o5 := (Only.refl [] w3.drew).alloc (.cells #[.slice (some ⟨g3, 0, none⟩) 512 512] 27)
  have P5 := Lib.hid (parts_one B4.out HSL.out)
  have D5 := Lib.hid (D4.out.kept o5 (by simp))
  have S5 := Lib.hid (S4.out.quiet o5)
  have R5 := Lib.hid (R4.out.kept o5 (clean_nil _))
  have O5 := Lib.hid (O3.out.drew.trans o5 (by simp))
  refine hK.out _ _ ⟨S5.out.c0, S5.out.c1⟩ (fun hH => ?_)
  clear hK K D4 S4 R4 B4 o5 O3
  refine wpAnyH_ready (rs := [13]) (by kernel_rfl) (by simp) ?_
  refine ready_list rfl (fun K hK => ?_)
  go_simp
  rw [HPE.out]
  refine (write_all s.place _ [s.sec r] D5.out P5.out (fits_one HSL.out)).mono ?_
  rintro e w6 ⟨rfl, d6, o6⟩
  rw [show [s.sec r].flatten = s.sec r from by simp] at d6 ⊢
  have D6 := Lib.hid d6
  have S6 := Lib.hid (S5.out.dev D5.out o6)
  have hoffD : Off (.slice ra r.length rc) a.bl := fun x n c e h0 hm => HOFF.out x n c e h0 (by simp [SA, hm])
  have R6 := Lib.hid (R5.out.keptOff o6 hoffD)
  have O6 := Lib.hid ((O5.out.mono (T := a.bl) (by simp)).trans o6 (fun k hk => .inl hk))
  have HOFD := Lib.hid hoffD
  refine hK.out _ _ ⟨S6.out.c0, S6.out.c1⟩ (fun hH => ?_)
  clear hK K D5 S5 R5 P5 O5 d6 o6 hoffD
  refine take_list (i := 14) (v := ?_) rfl (by kernel_rfl) (by kernel_rfl) (by kernel_rfl) (fun _ _ _ h => h) (Or.inl ⟨by rfl, ?_⟩) hH ?_
  rotate_left
  · ((intro w hSw; (try dsimp only at hSw); go_simp); try with_reducible rfl)
  simp only [Act.put, List.setIfInBounds_toArray, List.set_cons_zero, List.set_cons_succ]
  refine wpAnyH_done (by kernel_rfl) ?_ _
  clear hH
  have hc := Disk.code_03 HPL.out HSL.out
  by_cases hcz : d.code s.place (s.sec r).length = 0
  rotate_left
  · have hl : d.lcode s.place (s.sec r) = d.code s.place (s.sec r).length := if_neg hcz
    have hy : d.ly s.place (s.sec r) = d.wr s.place (s.sec r) := if_neg hcz
    rw [errV_nz hcz]
    have HL := Lib.hid hl
    have HY := Lib.hid hy
    clear hl hy hc
    go_wp2_with fail
    go_ret
    exact ⟨by rw [HL.out, errV_nz hcz]; rfl, by rw [HY.out]; exact D6.out, O6.out.mono (fun k hk => by simp [SA, hk]), fun h0 => absurd (HL.out.symm.trans h0) hcz, fun _ => S6.out⟩
  rw [errV_z hcz]
  have hl : d.lcode s.place (s.sec r) = (d.wr s.place (s.sec r)).scode := if_pos hcz
  have hy : d.ly s.place (s.sec r) = (d.wr s.place (s.sec r)).sy := if_pos hcz
  have HL := Lib.hid hl
  have HY := Lib.hid hy
  clear hl hy hc hcz
  have c0 := S6.out.c0
  go_wp2_with fail
  clear c0
  refine (sync_all D6.out).mono ?_
  rintro e w7 ⟨rfl, d7, o7⟩
  have S7 := Lib.hid (S6.out.dev D6.out o7)
  have R7 := Lib.hid (R6.out.keptOff o7 HOFD.out)
  have O7 := Lib.hid (O6.out.trans o7 (fun k hk => .inl hk))
  have D7 := Lib.hid d7
  clear d7 o7 D6 S6 R6 O6
  rw [← HL.out]
  rw [← HY.out] at D7
  by_cases hcz : d.lcode s.place (s.sec r) = 0
  rotate_left
  · rw [errV_nz hcz]
    go_wp2_with fail
    go_ret
    exact ⟨by rw [errV_nz hcz]; rfl, D7.out, O7.out.mono (fun k hk => by simp [SA, hk]), fun h0 => absurd h0 hcz, fun _ => S7.out⟩
  rw [errV_z hcz]
  go_wp2_with fail
  refine (clone_any _ r _ R7.out (by omega)).mono ?_
  rintro e w8 ⟨b8, k8, rfl, h8, o8⟩
  have S8 := Lib.hid (S7.out.quiet o8)
  have c2 := S8.out.c2
  have c3 := S8.out.c3
  have f2 := S8.out.free 2
  have f3 := S8.out.free 3
  have D8 := Lib.hid (D7.out.kept o8 (by simp))
  have H8 := Lib.hid h8
  have O8 := Lib.hid (O7.out.trans o8 (by simp))
  clear h8 o8 S7 D7 R7
  go_wp2_with fail
  have hp := slot_put S8.out H8.out.held hn hl
  have hz := O8.out.size
  have ho : Only (SA p a) w ((w8.setCell ⟨p, 2, none⟩ (.int .i64 (s.n + 1))).setCell ⟨p, 3, none⟩ (.slice b8 r.length k8)) := ((O8.out.mono (T := SA p a) (fun k hk => by simp [SA, hk])).setCell (by simp [SA]) _).setCell (by simp [SA]) _
  have h1 : Only [p] w8 ((w8.setCell ⟨p, 2, none⟩ (.int .i64 (s.n + 1))).setCell ⟨p, 3, none⟩ (.slice b8 r.length k8)) := ((Only.refl _ _).setCell (by simp) _).setCell (by simp) _
  have hpd : p ∉ a.bl := (S8.out.off_dev D8.out).1
  have z7 : w.heap.size ≤ w7.heap.size := O7.out.size
  go_ret
  exact ⟨by rw [errV_z hcz]; rfl, D8.out.kept h1 (by simpa using hpd), ho, fun _ => ⟨_, hp, fun g hg => Nat.le_trans z7 (H8.out.lt hg).1⟩, fun h0 => absurd hcz h0⟩

/-! ### Save -/
def SL.scode (s : SL) (d : Disk) (r : Sec) : Int := if 480 < r.length ∨ s.n = 4611686018427387904 then 2 else if s.cut = true then 3 else d.lcode s.place (s.sec r)
def SL.sdisk (s : SL) (d : Disk) (r : Sec) : Disk := if 480 < r.length ∨ s.n = 4611686018427387904 then d else if s.cut = true then d else d.ly s.place (s.sec r)
def SL.save (s : SL) (d : Disk) (r : Sec) : SL := if 480 < r.length ∨ s.n = 4611686018427387904 then s else if s.cut = true then s else if d.lcode s.place (s.sec r) = 0 then s.put r else s.die true
structure SavePost (w : World) (p : Nat) (a : DA) (v : Value) (s : SL) (d : Disk) (r : Sec) (e : Ending) (w' : World) : Prop where
  ans : e = .returned (errV (s.scode d r))
  dev : Dev w' a (s.sdisk d r)
  only : Only (SA p a) w w'
  slot : ∃ v', Slot w' p a v' (s.save d r) ∧ (v' = v ∨ ∀ g, v'.ownBlock = some g → w.heap.size ≤ g)
theorem only_slot {w : World} {p : Nat} {a : DA} {d : Disk} {v : Value} {s : SL} {x : Value} (h : Slot w p a v s) (hd : Dev w a d) (i : Nat) : Dev (w.setCell ⟨p, i, none⟩ x) a d := by
  have hpd : p ∉ a.bl := (h.off_dev hd).1
  exact hd.kept (S := [p]) ((Only.refl _ _).setCell (by simp) _) (by simpa using hpd)

set_option maxRecDepth 100000 in
set_option maxHeartbeats 1600000 in
theorem save_any {w : World} {p : Nat} {a : DA} {v : Value} {s : SL} {d : Disk} (rv : Value) (r : Sec) (h : Slot w p a v s) (hd : Dev w a d) (hr : Bytes w rv r) (ha : fitB s.at_ d.size = true) (hrl : r.length ≤ 4611686018427387904) :
    Calls Tryz.prog 55 #[.pointer (some ⟨p, 0, none⟩), rv] w (SavePost w p a v s d r) := by
  have c2 := h.c2
  have c4 := h.c4
  have hlo := h.lo
  have hhi := h.hi
  obtain ⟨ra, rc, rfl, -⟩ := id hr
  have HR := Lib.hid hr
  have H := Lib.hid h
  have HD := Lib.hid hd
  have HA := Lib.hid ha
  clear h hr hd ha
  by_cases hl : 480 < r.length
  · have hl' : (480 : Int) < (r.length : Int) := by omega
    have f : SavePost w p a v s d r (.returned (err 2)) w := by
      refine ⟨?_, ?_, Only.refl _ _, v, ?_, .inl rfl⟩
      · simp [SL.scode, hl, errV]
      · simpa [SL.sdisk, hl] using HD.out
      · simpa [SL.save, hl] using H.out
    have F := Lib.hid f
    clear f
    go_enter Tryz.func55, Tryz.ntmps55
    go_wp2_with fail
    go_ret
    exact F.out
  have hl' : ¬ (480 : Int) < (r.length : Int) := by omega
  by_cases hm : s.n = 4611686018427387904
  · have f : SavePost w p a v s d r (.returned (err 2)) w := by
      refine ⟨?_, ?_, Only.refl _ _, v, ?_, .inl rfl⟩
      · simp [SL.scode, hm, errV]
      · simpa [SL.sdisk, hm] using HD.out
      · simpa [SL.save, hm] using H.out
    have F := Lib.hid f
    rw [hm] at c2
    clear f
    go_enter Tryz.func55, Tryz.ntmps55
    go_wp2_with fail
    go_ret
    exact F.out
  have hm' : (s.n == 4611686018427387904) = false := by simpa using hm
  have hnf : ¬ (480 < r.length ∨ s.n = 4611686018427387904) := by omega
  cases hcut : s.cut
  rotate_left
  · have f : SavePost w p a v s d r (.returned (err 3)) w := by
      refine ⟨?_, ?_, Only.refl _ _, v, ?_, .inl rfl⟩
      · simp [SL.scode, hnf, hcut, errV]
      · simpa [SL.sdisk, hnf, hcut] using HD.out
      · simpa [SL.save, hnf, hcut] using H.out
    have F := Lib.hid f
    rw [hcut] at c4
    clear f hcut
    go_enter Tryz.func55, Tryz.ntmps55
    go_wp2_with fail
    go_ret
    exact F.out
  have e1 : s.scode d r = d.lcode s.place (s.sec r) := by simp [SL.scode, hnf, hcut]
  have e2 : s.sdisk d r = d.ly s.place (s.sec r) := by simp [SL.sdisk, hnf, hcut]
  have e3 : s.save d r = if d.lcode s.place (s.sec r) = 0 then s.put r else s.die true := by simp [SL.save, hnf, hcut]
  have E1 := Lib.hid e1
  have E2 := Lib.hid e2
  have E3 := Lib.hid e3
  rw [hcut] at c4
  have HC := Lib.hid hcut
  clear e1 e2 e3 hcut hnf
  go_enter Tryz.func55, Tryz.ntmps55
  go_wp2_with fail
  refine (lay_any _ r H.out HD.out HR.out (by omega) (by omega) HA.out).mono ?_
  rintro e w1 ⟨rfl, d1, o1, hy, hn⟩
  clear c2 c4
  by_cases hcz : d.lcode s.place (s.sec r) = 0
  · obtain ⟨v', s1, hnew⟩ := hy hcz
    rw [errV_z hcz]
    have c4 : w1.cell? ⟨p, 4, none⟩ = some (.bool s.cut) := s1.c4
    have f4 := s1.free 4
    have s2 := slot_new s1 false
    have e4 : (s.put r).die false = s.put r := by have := HC.out; unfold SL.put SL.die; rw [this]
    rw [e4] at s2
    have f : SavePost w p a v s d r (.returned .nilIface) (w1.setCell ⟨p, 4, none⟩ (.bool false)) := by
      refine ⟨by rw [E1.out, errV_z hcz], ?_, o1.setCell (by simp [SA]) _, v', ?_, .inr hnew⟩
      · rw [E2.out]
        exact only_slot s1 d1 4
      · rw [E3.out, if_pos hcz]
        exact s2
    have F := Lib.hid f
    clear f s1 s2 d1 o1 hy hn hnew e4
    go_wp2_with fail
    go_ret
    exact F.out
  · have s1 := hn hcz
    rw [errV_nz hcz]
    have c4 : w1.cell? ⟨p, 4, none⟩ = some (.bool s.cut) := s1.c4
    have f4 := s1.free 4
    have s2 := slot_new s1 true
    have f : SavePost w p a v s d r (.returned (err (d.lcode s.place (s.sec r)))) (w1.setCell ⟨p, 4, none⟩ (.bool true)) := by
      refine ⟨by rw [E1.out, errV_nz hcz], ?_, o1.setCell (by simp [SA]) _, v, ?_, .inl rfl⟩
      · rw [E2.out]
        exact only_slot s1 d1 4
      · rw [E3.out, if_neg hcz]
        exact s2
    have F := Lib.hid f
    clear f s1 s2 d1 o1 hy hn
    go_wp2_with fail
    go_ret
    exact F.out
end Go.Proofs.YtfnedeaemjchgaaGreat
