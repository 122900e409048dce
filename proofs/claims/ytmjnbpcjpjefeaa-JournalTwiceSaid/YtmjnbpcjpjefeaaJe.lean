/- A journal: fits, Format. -/
import Derived.Test.YtmjnbpcjpjefeaaJd
import Derived.WalkMore
import Derived.Deep.LoopGhost
namespace Go.Proofs.Ytmjnbpcjpjefeaa
open Go.RowKit Go.Maps
set_option linter.unusedSimpArgs false
set_option linter.unusedVariables false

def jfitB (at_ n size : Int) : Bool := decide (0 ≤ at_) && decide (2 ≤ n) && decide (n ≤ 2048) && decide (at_ ≤ size - 2 - n)
theorem jfitB_iff {at_ n size : Int} : jfitB at_ n size = true ↔ 0 ≤ at_ ∧ 2 ≤ n ∧ n ≤ 2048 ∧ at_ ≤ size - 2 - n := by
  simp [jfitB, and_assoc]
theorem jfitB_no {at_ n size : Int} (h : ¬ (0 ≤ at_ ∧ 2 ≤ n ∧ n ≤ 2048 ∧ at_ ≤ size - 2 - n)) : jfitB at_ n size = false := by
  cases hb : jfitB at_ n size
  · rfl
  · exact absurd (jfitB_iff.1 hb) h
theorem jfits_nil (at_ n : Int) (w : World) : Calls Try.prog 33 #[.pointer none, .int .i64 at_, .int .i64 n] w fun e w' => e = .returned (.bool (jfitB at_ n 0)) ∧ w = w' := by
  by_cases h0 : 0 ≤ at_
  rotate_left
  · have h0' : at_ < 0 := by omega
    go_enter Try.func33, Try.ntmps33
    go_wp2_with fail
    go_ret
    exact ⟨ret_bool (jfitB_no (by omega)).symm, rfl⟩
  by_cases h1 : 2 ≤ n
  rotate_left
  · have h1' : n < 2 := by omega
    go_enter Try.func33, Try.ntmps33
    go_wp2_with fail
    go_ret
    exact ⟨ret_bool (jfitB_no (by omega)).symm, rfl⟩
  by_cases h2 : n ≤ 2048
  rotate_left
  · have h2' : 2048 < n := by omega
    go_enter Try.func33, Try.ntmps33
    go_wp2_with fail
    go_ret
    exact ⟨ret_bool (jfitB_no (by omega)).symm, rfl⟩
  go_enter Try.func33, Try.ntmps33
  go_wp2_with fail
  refine (size_nil _).mono ?_
  rintro e w' ⟨rfl, rfl⟩
  go_wp2_with fail
  go_ret
  exact ⟨ret_bool (by simp [jfitB]; omega), rfl⟩
theorem jfits_dev (a : DA) (d : Disk) (at_ n : Int) (w : World) (h : Dev w a d) : Calls Try.prog 33 #[.pointer (some ⟨a.p, 0, none⟩), .int .i64 at_, .int .i64 n] w fun e w' => e = .returned (.bool (jfitB at_ n d.size)) ∧ w = w' := by
  have hlo := h.lo
  have hhi := h.hi
  by_cases h0 : 0 ≤ at_
  rotate_left
  · have h0' : at_ < 0 := by omega
    go_enter Try.func33, Try.ntmps33
    go_wp2_with fail
    go_ret
    exact ⟨ret_bool (jfitB_no (by omega)).symm, rfl⟩
  by_cases h1 : 2 ≤ n
  rotate_left
  · have h1' : n < 2 := by omega
    go_enter Try.func33, Try.ntmps33
    go_wp2_with fail
    go_ret
    exact ⟨ret_bool (jfitB_no (by omega)).symm, rfl⟩
  by_cases h2 : n ≤ 2048
  rotate_left
  · have h2' : 2048 < n := by omega
    go_enter Try.func33, Try.ntmps33
    go_wp2_with fail
    go_ret
    exact ⟨ret_bool (jfitB_no (by omega)).symm, rfl⟩
  have hs := size_any _ _ _ _ _ _ h.blk
  clear h
  generalize d.size = z at *
  go_enter Try.func33, Try.ntmps33
  go_wp2_with fail
  refine hs.mono ?_
  rintro e w' ⟨rfl, rfl⟩
  go_wp2_with fail
  go_ret
  exact ⟨ret_bool (by simp [jfitB, h0, h1, h2]), rfl⟩

/-- A new journal. -/
def JL.new (at_ : Int) (n : Nat) : JL := ⟨at_, n, 1, 0, [], [], 0, [], 0, false⟩
theorem JOk.new {at_ : Int} {n : Nat} (h0 : 0 ≤ at_) (h1 : 2 ≤ n) (h2 : n ≤ 2048) (h3 : at_ + 2 + n ≤ 4096) : JOk (JL.new at_ n) :=
  ⟨rfl, Nat.le_refl _, Nat.le_refl _, by simp [JL.new], by simp [JL.new, JL.stream, flat], h1, h2, by simp [JL.new], by simp [JL.new], h0, h3⟩
def freshCells (a : DA) (at_ : Int) (n : Nat) : Array Value :=
  #[.pointer (some ⟨a.p, 0, none⟩), .int .i64 (at_ + 2), .int .i64 n, .pointer none, .int .i64 0, .slice none 0 0, .int .i64 1, .slice none 0 0, .int .i64 1, .slice none 0 0, .int .i64 0, .bool false]
def row0 : Sec := nums [1, 0, 0]
theorem row0_len : row0.length ≤ 30 := nums_30 (by omega) (by omega) (by omega)
section
variable {w : World} {p : Nat} {a : DA} {at_ : Int} {n : Nat} (h : w.heap[p]? = some (.cells (freshCells a at_ n) 63 (0, 0)))
include h
theorem jnext_fresh : Calls Try.prog 12 #[.pointer (some ⟨p, 0, none⟩)] w fun e w' => e = .returned (.int .i64 1) ∧ Drew w w' := by
  have c6 : w.cell? ⟨p, 6, none⟩ = some (.int .i64 1) := cell_at 6 h
  have c7 : w.cell? ⟨p, 7, none⟩ = some (.slice none 0 0) := cell_at 7 h
  clear h
  go_enter Try.func12, Try.ntmps12
  go_wp2_with fail
  go_quiet (fail)
  go_wp2_with fail
  go_ret
  exact ⟨rfl, _, rfl⟩
theorem jend_fresh : Calls Try.prog 45 #[.pointer (some ⟨p, 0, none⟩)] w fun e w' => e = .returned (.int .i64 0) ∧ Drew w w' := by
  have c4 : w.cell? ⟨p, 4, none⟩ = some (.int .i64 0) := cell_at 4 h
  have c5 : w.cell? ⟨p, 5, none⟩ = some (.slice none 0 0) := cell_at 5 h
  clear h
  go_enter Try.func45, Try.ntmps45
  go_wp2_with fail
  go_quiet (fail)
  go_wp2_with fail
  go_ret
  exact ⟨rfl, _, rfl⟩
theorem joffset_fresh : Calls Try.prog 32 #[.pointer (some ⟨p, 0, none⟩), .int .i64 1] w fun e w' => e = .returned (.int .i64 0) ∧ Drew w w' := by
  have H := Lib.hid h
  clear h
  go_enter Try.func32, Try.ntmps32
  go_wp2_with fail
  refine (jnext_fresh H.out).mono ?_
  rintro e w1 ⟨rfl, hd⟩
  have HD := Lib.hid hd
  have H1 := Lib.hid (hd.only.heap H.out (by simp))
  clear hd
  go_wp2_with fail
  refine (jend_fresh H1.out).mono ?_
  rintro e w2 ⟨rfl, hd2⟩
  have HD2 := Lib.hid hd2
  clear hd2
  go_wp2_with fail
  go_ret
  obtain ⟨n1, e1⟩ := HD.out
  obtain ⟨n2, e2⟩ := HD2.out
  exact ⟨rfl, n1 + n2, by rw [e2, e1, World.drewN_drewN]⟩
set_option maxRecDepth 100000 in
theorem jrow_fresh : Calls Try.prog 44 #[.pointer (some ⟨p, 0, none⟩), .int .i64 1, .slice none 0 0] w fun e w' => ∃ b c, e = .returned (.slice b row0.length c) ∧ Own w' w.heap.size (.slice b row0.length c) row0 ∧ Only [] w w' := by
  have H := Lib.hid h
  have h30 := row0_len
  clear h
  go_enter Try.func44, Try.ntmps44
  go_wp2_with fail
  refine (joffset_fresh H.out).mono ?_
  rintro e w1 ⟨rfl, hd⟩
  have O1 := Lib.hid hd.only
  have H1 := Lib.hid (hd.only.heap H.out (by simp))
  clear hd H
  go_wp2_with fail
  refine (jend_fresh H1.out).mono ?_
  rintro e w2 ⟨rfl, hd2⟩
  have O2 := Lib.hid (O1.out.trans hd2.only (by simp))
  clear hd2 O1 H1
  go_wp2_with fail
  have o3 := (Only.refl [] w2).alloc (.cells #[.int .i64 1, .int .i64 0, .int .i64 0] 3)
  have I3 := Lib.hid (ints_three w2 1 0 0 (by decide) (by decide) (by decide))
  refine (Put_any (.slice none 0 0) [] _ [1, 0, 0] _ (bytes_nil _ _) I3.out (by simp) (by simp)).mono ?_
  rintro e w4 ⟨a4, k4, rfl, h4, o4⟩
  simp only [List.nil_append, List.length_nil, Nat.zero_add] at h4 ⊢
  rw [show nums [1, 0, 0] = row0 from rfl] at h4 ⊢
  have O4 := Lib.hid ((O2.out.trans o3 (by simp)).trans o4 (by simp))
  have H4 := Lib.hid (h4.mono (base' := w.heap.size) (Nat.le_trans O2.out.size (by simp)))
  have Z4 := O4.out.size
  clear h4 o4 o3 I3 O2
  go_wp2_with (
    refine wpList_append_any rfl (.tmp 14) (.tmp 15) rfl w.heap.size _ row0 (by rfl) H4.out _ [] (by rfl) (bytes_nil _ _) row0.length rfl row0 (List.append_nil _) (by omega) Z4 ?_
    intro a5 k5 w5 h5 x5
    have F := Lib.hid (And.intro h5 (Ext.fresh O4.out H4.out (Nat.le_refl _) x5))
    clear h5 x5 H4 O4)
  go_ret
  exact ⟨_, _, rfl, F.out.1, F.out.2⟩
end

/-- What Format, Open answer: a journal, or an error. -/
structure JMade (w : World) (a : DA) (d' : Disk) (j : JL) (s : SL) (c : Int) (e : Ending) (w' : World) : Prop where
  dev : Dev w' a d'
  only : Only a.bl w w'
  yes : c = 0 → ∃ p q B, e = .returned (.tuple #[.pointer (some ⟨p, 0, none⟩), .nilIface]) ∧ Jn w' p q a B d' j s ∧ ∀ k ∈ B, k ∈ a.bl ∨ w.heap.size ≤ k
  no : c ≠ 0 → e = .returned (.tuple #[.pointer none, err c])
def Disk.jcode (d : Disk) (at_ n : Int) : Int := if jfitB at_ n d.size = false then 1 else d.fcode at_ row0
def Disk.jfm (d : Disk) (at_ n : Int) : Disk := if jfitB at_ n d.size = false then d else d.fm at_ row0
theorem jformat_nil (at_ n : Int) (w : World) : Calls Try.prog 27 #[.pointer none, .int .i64 at_, .int .i64 n] w fun e w' => e = .returned (.tuple #[.pointer none, err 1]) ∧ w = w' := by
  have hf := jfits_nil at_ n w
  rw [jfitB_no (by omega)] at hf
  go_enter Try.func27, Try.ntmps27
  go_wp2_with fail
  refine hf.mono ?_
  rintro e w' ⟨rfl, rfl⟩
  go_wp2_with fail
  go_ret2
  exact ⟨rfl, rfl⟩
set_option maxRecDepth 100000 in
set_option maxHeartbeats 4000000 in
theorem jformat_any {w : World} {a : DA} {d : Disk} (at_ : Int) (n : Nat) (hd : Dev w a d) :
    Calls Try.prog 27 #[.pointer (some ⟨a.p, 0, none⟩), .int .i64 at_, .int .i64 n] w (JMade w a (d.jfm at_ n) (JL.new at_ n) ⟨at_, 1, row0, false⟩ (d.jcode at_ n)) := by
  have hf := jfits_dev a d at_ n w hd
  have hhi := hd.hi
  have q1 := iface_ne
  have q2 := iface_nerr
  have HD := Lib.hid hd
  cases hb : jfitB at_ n d.size
  · rw [hb] at hf
    have e1 : d.jcode at_ n = 1 := by unfold Disk.jcode; rw [hb]; rfl
    have e2 : d.jfm at_ n = d := by unfold Disk.jfm; rw [hb]; rfl
    have E1 := Lib.hid e1
    have E2 := Lib.hid e2
    clear hd hb e1 e2
    go_enter Try.func27, Try.ntmps27
    go_wp2_with fail
    refine hf.mono ?_
    rintro e w' ⟨rfl, rfl⟩
    go_wp2_with fail
    go_ret2
    exact ⟨by rw [E2.out]; exact HD.out, Only.refl _ _, (fun h => by rw [E1.out] at h; cases h), (fun _ => by rw [E1.out]; rfl)⟩
  rw [hb] at hf
  obtain ⟨f0, f1, f2, f3⟩ := jfitB_iff.1 hb
  have e1 : d.jcode at_ n = d.fcode at_ row0 := by unfold Disk.jcode; rw [hb]; rfl
  have e2 : d.jfm at_ n = d.fm at_ row0 := by unfold Disk.jfm; rw [hb]; rfl
  have E1 := Lib.hid e1
  have E2 := Lib.hid e2
  have h30 := row0_len
  clear hd hb e1 e2
  go_enter Try.func27, Try.ntmps27
  go_wp2_with fail
  refine hf.mono ?_
  rintro e w' ⟨rfl, rfl⟩
  go_wp2_with fail
  have o1 : Only [] w (w.alloc (.cells (freshCells a at_ n) 63)) := (Only.refl [] w).alloc _
  have B1 : (w.alloc (.cells (freshCells a at_ n) 63)).heap[w.heap.size]? = some (.cells (freshCells a at_ n) 63 (0, 0)) := heap_new w _
  have D1 := Lib.hid (HD.out.kept o1 (by simp))
  have HB1 := Lib.hid B1
  have O1 := Lib.hid o1
  clear B1 o1 HD hf
  refine (jrow_fresh HB1.out).mono ?_
  rintro e w2 ⟨b2, k2, rfl, h2, o2⟩
  have D2 := Lib.hid (D1.out.kept o2 (by simp))
  have R2 := Lib.hid h2.bytes
  have HB2 := Lib.hid (o2.heap HB1.out (by simp))
  have O2 := Lib.hid (O1.out.trans o2 (by simp))
  have ZP := Lib.hid (lt_of_heap HB2.out)
  generalize hg : w.heap.size = g at HB1 HB2 ZP ⊢
  have HG := Lib.hid hg
  clear h2 o2 D1 HB1 O1 hg
  go_wp2_with fail
  refine (Format_any at_ _ row0 D2.out R2.out (by omega)).mono ?_
  rintro e w3 ⟨d3, o3, hy, hn⟩
  have HB3 := Lib.hid (o3.heap HB2.out (D2.out.off_ty HB2.out (by decide)))
  have D3 := Lib.hid d3
  have O3 := Lib.hid ((O2.out.mono (T := a.bl) (by simp)).trans o3 (fun k hk => .inl hk))
  have Z2 := Lib.hid O2.out.size
  by_cases hc : d.fcode at_ row0 = 0
  rotate_left
  · rw [hn hc]
    have HC := Lib.hid hc
    clear hc hy hn d3 o3 HB2 D2 R2 O2 ZP
    go_wp2_with fail
    go_ret2
    exact ⟨by rw [E2.out]; exact D3.out, O3.out, (fun h => absurd (E1.out.symm.trans h) HC.out), (fun _ => by rw [E1.out]; rfl)⟩
  obtain ⟨q, vr, rfl, s3, hq, hvr⟩ := hy hc
  have S3 := Lib.hid s3
  have HQ := Lib.hid hq
  have HVR := Lib.hid hvr
  have HC := Lib.hid (E1.out.trans hc)
  have c3 : w3.cell? ⟨g, 3, none⟩ = some (.pointer none) := cell_at 3 HB3.out
  have f3 := free_at 3 HB3.out
  have hne : g ≠ q := by have := ZP.out; omega
  have HNE := Lib.hid hne
  clear hc hy hn d3 o3 s3 hq hvr HB2 D2 R2 O2 hne
  go_wp2_with fail
  have hk := heap_cell (i := 3) (.pointer (some ⟨q, 0, none⟩)) HB3.out
  have o4 : Only [g] w3 (w3.setCell ⟨g, 3, none⟩ (.pointer (some ⟨q, 0, none⟩))) := (Only.refl _ _).setCell (by simp) _
  have O4 : Only a.bl w (w3.setCell ⟨g, 3, none⟩ (.pointer (some ⟨q, 0, none⟩))) := O3.out.trans o4 (fun k hk => .inr (by rw [List.mem_singleton.1 hk, HG.out]; exact Nat.le_refl _))
  have D4 := D3.out.kept o4 (fun k hk => by rw [List.mem_singleton.1 hk]; exact D3.out.off_ty HB3.out (by decide))
  have S4 := S3.out.kept o4 (by simpa using HNE.out.symm) (fun k hk e => by
    rw [List.mem_singleton.1 hk] at e
    exact absurd (Held.u8 S3.out.row e HB3.out) (by decide))
  have hvrw : ∀ x, vr.ownBlock = some x → w.heap.size ≤ x := fun x hx => Nat.le_trans Z2.out (HVR.out x hx)
  go_ret2
  refine ⟨by rw [E2.out]; exact D4, O4, fun _ => ⟨g, q, jbl g q a (.slice none 0 0) (.slice none 0 0) (.slice none 0 0) vr, rfl, ⟨_, _, _, _, ?_, rfl⟩, ?_⟩, fun h => absurd HC.out h⟩
  · rw [E2.out]
    refine ⟨hk, S4, D4, Own.nil _ _, OwnI.nil _ _, ⟨bytes_nil _ _, fun g hg => by cases hg⟩, (fun g hg => by cases hg), (fun g hg => by cases hg), JOk.new f0 (by omega) (by omega) (by omega), ?_, rfl⟩
    rw [fm_size]
    show at_ + 2 + (n : Int) ≤ d.size
    omega
  · intro k hk
    simp only [jbl, List.mem_cons, List.mem_append, Option.mem_toList, Option.mem_def] at hk
    rcases hk with rfl | rfl | hk | hk | hk | hk | hk
    · exact .inr (by rw [HG.out]; exact Nat.le_refl _)
    · exact .inr (Nat.le_trans Z2.out HQ.out)
    · exact .inl hk
    · cases hk
    · cases hk
    · cases hk
    · exact .inr (hvrw k hk)
end Go.Proofs.Ytmjnbpcjpjefeaa
/- A journal: whole, read. -/
namespace Go.Proofs.Ytmjnbpcjpjefeaa
open Go.RowKit Go.Maps
set_option linter.unusedSimpArgs false
set_option linter.unusedVariables false

theorem val_two (c e : UInt8) : val [c, e] = c.toNat * 256 + e.toNat := by simp [val]
set_option maxRecDepth 100000 in
theorem jwhole_any (v : Value) (b : Sec) (w : World) (hv : Bytes w v b) (hl : b.length ≤ 1000000) :
    Calls Try.prog 55 #[v] w fun e w' => e = .returned (.int .i64 (wholeN b : Nat)) ∧ Drew w w' := by
  obtain ⟨va, vc, rfl, hc⟩ := hv
  by_cases h2 : b.length < 2
  · have e1 : wholeN b = 0 := by unfold wholeN; rw [if_pos h2]
    rw [e1]
    have h2' : (b.length : Int) < 2 := by omega
    clear hc e1
    go_enter Try.func55, Try.ntmps55
    go_wp2_with fail
    go_ret
    exact ⟨rfl, Drew.refl _⟩
  obtain ⟨c, e, t, rfl⟩ : ∃ c e t, b = c :: e :: t := by
    match b, h2 with
    | [], h => simp at h
    | [_], h => simp at h
    | c :: e :: t, _ => exact ⟨c, e, t, rfl⟩
  obtain ⟨g, off, rfl, k0⟩ := hc 0 c rfl
  obtain ⟨g', off', e', k1⟩ := hc 1 e rfl
  cases e'
  have e1 : wholeN (c :: e :: t) = if (c :: e :: t).length - 2 < c.toNat * 256 + e.toNat then 0 else c.toNat * 256 + e.toNat + 2 := by
    unfold wholeN
    rw [if_neg h2]
    show (if _ < val [c, e] then 0 else val [c, e] + 2) = _
    rw [val_two]
  have hor := bits_join .i64 63 (by decide) (fun n h0 h1 => by rw [IntKind.wrap_i64]; omega) 8 ((c.toNat : Int) * 256) (e.toNat : Int) (by have := c.toNat_lt; have := e.toNat_lt; omega) (by have := c.toNat_lt; have := e.toNat_lt; omega) (by have := c.toNat_lt; have := e.toNat_lt; omega) (by have := c.toNat_lt; have := e.toNat_lt; omega) (by have := c.toNat_lt; have := e.toNat_lt; omega) (by have := c.toNat_lt; have := e.toNat_lt; omega)
  have hc0 := c.toNat_lt
  have he0 := e.toNat_lt
  generalize (c :: e :: t).length = n at *
  have hn2 : 2 ≤ n := by omega
  have hn0 : 0 < n := by omega
  have hn1 : 1 < n := by omega
  have hn1' : (1 : Int) < (n : Int) := by omega
  have n2' : ¬ (n : Int) < 2 := by omega
  generalize c.toNat = x at *
  generalize e.toNat = y at *
  simp only [Nat.add_zero] at k0
  rw [e1]
  clear hc e1 h2
  have HOR := Lib.hid hor
  have wx : IntKind.i64.wrap (x : Int) = (x : Int) := by rw [IntKind.wrap_i64]; omega
  have wy : IntKind.i64.wrap (y : Int) = (y : Int) := by rw [IntKind.wrap_i64]; omega
  have wz : IntKind.i64.wrap ((x : Int) * 256) = (x : Int) * 256 := by rw [IntKind.wrap_i64]; omega
  clear hor
  by_cases h : n - 2 < x * 256 + y
  · rw [if_pos h]
    have h' : (n : Int) - 2 < (x : Int) * 256 + (y : Int) := by omega
    go_enter Try.func55, Try.ntmps55
    go_wp2_with fail
    refine wp_region_held_drew (S := fun w' => w'.cell? ⟨g, off, none⟩ = some (.int .u8 x) ∧ w'.cell? ⟨g, off + 1, none⟩ = some (.int .u8 y)) (by kernel_rfl) ⟨k0, k1⟩ (fun hH => ?_)
    have hor := HOR.out
    refine take_list (i := 0) (v := ?_) rfl (by kernel_rfl) (by kernel_rfl) (by kernel_rfl) (fun _ _ _ h => h) (Or.inl ⟨by rfl, ?_⟩) hH ?_
    rotate_left
    · ((intro w hSw; (try dsimp only at hSw); go_simp); try with_reducible rfl)
    simp only [Act.put, List.setIfInBounds_toArray, List.set_cons_zero, List.set_cons_succ]
    refine take_list (i := 1) (v := ?_) rfl (by kernel_rfl) (by kernel_rfl) (by kernel_rfl) (fun _ _ _ h => h) (Or.inl ⟨by rfl, ?_⟩) hH ?_
    rotate_left
    · ((intro w hSw; (try dsimp only at hSw); go_simp); try with_reducible rfl)
    simp only [Act.put, List.setIfInBounds_toArray, List.set_cons_zero, List.set_cons_succ]
    refine take_list (i := 2) (v := ?_) rfl (by kernel_rfl) (by kernel_rfl) (by kernel_rfl) (fun _ _ _ h => h) (Or.inl ⟨by rfl, ?_⟩) hH ?_
    rotate_left
    · ((intro w hSw; (try dsimp only at hSw); go_simp); try with_reducible rfl)
    simp only [Act.put, List.setIfInBounds_toArray, List.set_cons_zero, List.set_cons_succ]
    refine take_list (i := 3) (v := ?_) rfl (by kernel_rfl) (by kernel_rfl) (by kernel_rfl) (fun _ _ _ h => h) (Or.inl ⟨by rfl, ?_⟩) hH ?_
    rotate_left
    · ((intro w hSw; (try dsimp only at hSw); go_simp); try with_reducible rfl)
    simp only [Act.put, List.setIfInBounds_toArray, List.set_cons_zero, List.set_cons_succ]
    refine take_list (i := 4) (v := ?_) rfl (by kernel_rfl) (by kernel_rfl) (by kernel_rfl) (fun _ _ _ h => h) (Or.inl ⟨by rfl, ?_⟩) hH ?_
    rotate_left
    · ((intro w hSw; (try dsimp only at hSw); go_simp); try with_reducible rfl)
    simp only [Act.put, List.setIfInBounds_toArray, List.set_cons_zero, List.set_cons_succ]
    refine take_list (i := 5) (v := ?_) rfl (by kernel_rfl) (by kernel_rfl) (by kernel_rfl) (fun _ _ _ h => h) (Or.inl ⟨by rfl, ?_⟩) hH ?_
    rotate_left
    · ((intro w hSw; (try dsimp only at hSw); go_simp); try with_reducible rfl)
    simp only [Act.put, List.setIfInBounds_toArray, List.set_cons_zero, List.set_cons_succ]
    refine take_list (i := 6) (v := ?_) rfl (by kernel_rfl) (by kernel_rfl) (by kernel_rfl) (fun _ _ _ h => h) (Or.inl ⟨by rfl, ?_⟩) hH ?_
    rotate_left
    · ((intro w hSw; (try dsimp only at hSw); go_simp); try with_reducible rfl)
    simp only [Act.put, List.setIfInBounds_toArray, List.set_cons_zero, List.set_cons_succ]
    refine take_list (i := 7) (v := ?_) rfl (by kernel_rfl) (by kernel_rfl) (by kernel_rfl) (fun _ _ _ h => h) (Or.inl ⟨by rfl, ?_⟩) hH ?_
    rotate_left
    · ((intro w hSw; (try dsimp only at hSw); go_simp); try with_reducible rfl)
    simp only [Act.put, List.setIfInBounds_toArray, List.set_cons_zero, List.set_cons_succ]
    refine take_list (i := 8) (v := ?_) rfl (by kernel_rfl) (by kernel_rfl) (by kernel_rfl) (fun _ _ _ h => h) (Or.inl ⟨by rfl, ?_⟩) hH ?_
    rotate_left
    · ((intro w hSw; (try dsimp only at hSw); go_simp); try with_reducible rfl)
    simp only [Act.put, List.setIfInBounds_toArray, List.set_cons_zero, List.set_cons_succ]
    refine take_list (i := 9) (v := ?_) rfl (by kernel_rfl) (by kernel_rfl) (by kernel_rfl) (fun _ _ _ h => h) (Or.inl ⟨by rfl, ?_⟩) hH ?_
    rotate_left
    · ((intro w hSw; (try dsimp only at hSw); go_simp); try with_reducible rfl)
    simp only [Act.put, List.setIfInBounds_toArray, List.set_cons_zero, List.set_cons_succ]
    refine take_list (i := 10) (v := ?_) rfl (by kernel_rfl) (by kernel_rfl) (by kernel_rfl) (fun _ _ _ h => h) (Or.inl ⟨by rfl, ?_⟩) hH ?_
    rotate_left
    · ((intro w hSw; (try dsimp only at hSw); go_simp); try with_reducible rfl)
    simp only [Act.put, List.setIfInBounds_toArray, List.set_cons_zero, List.set_cons_succ]
    refine wpAnyH_done (by kernel_rfl) ?_ _
    clear hor hH
    go_wp2_with fail
    go_ret
    exact ⟨rfl, 1, rfl⟩
  · rw [if_neg h]
    have h' : ¬ (n : Int) - 2 < (x : Int) * 256 + (y : Int) := by omega
    go_enter Try.func55, Try.ntmps55
    go_wp2_with fail
    refine wp_region_held_drew (S := fun w' => w'.cell? ⟨g, off, none⟩ = some (.int .u8 x) ∧ w'.cell? ⟨g, off + 1, none⟩ = some (.int .u8 y)) (by kernel_rfl) ⟨k0, k1⟩ (fun hH => ?_)
    have hor := HOR.out
    refine take_list (i := 0) (v := ?_) rfl (by kernel_rfl) (by kernel_rfl) (by kernel_rfl) (fun _ _ _ h => h) (Or.inl ⟨by rfl, ?_⟩) hH ?_
    rotate_left
    · ((intro w hSw; (try dsimp only at hSw); go_simp); try with_reducible rfl)
    simp only [Act.put, List.setIfInBounds_toArray, List.set_cons_zero, List.set_cons_succ]
    refine take_list (i := 1) (v := ?_) rfl (by kernel_rfl) (by kernel_rfl) (by kernel_rfl) (fun _ _ _ h => h) (Or.inl ⟨by rfl, ?_⟩) hH ?_
    rotate_left
    · ((intro w hSw; (try dsimp only at hSw); go_simp); try with_reducible rfl)
    simp only [Act.put, List.setIfInBounds_toArray, List.set_cons_zero, List.set_cons_succ]
    refine take_list (i := 2) (v := ?_) rfl (by kernel_rfl) (by kernel_rfl) (by kernel_rfl) (fun _ _ _ h => h) (Or.inl ⟨by rfl, ?_⟩) hH ?_
    rotate_left
    · ((intro w hSw; (try dsimp only at hSw); go_simp); try with_reducible rfl)
    simp only [Act.put, List.setIfInBounds_toArray, List.set_cons_zero, List.set_cons_succ]
    refine take_list (i := 3) (v := ?_) rfl (by kernel_rfl) (by kernel_rfl) (by kernel_rfl) (fun _ _ _ h => h) (Or.inl ⟨by rfl, ?_⟩) hH ?_
    rotate_left
    · ((intro w hSw; (try dsimp only at hSw); go_simp); try with_reducible rfl)
    simp only [Act.put, List.setIfInBounds_toArray, List.set_cons_zero, List.set_cons_succ]
    refine take_list (i := 4) (v := ?_) rfl (by kernel_rfl) (by kernel_rfl) (by kernel_rfl) (fun _ _ _ h => h) (Or.inl ⟨by rfl, ?_⟩) hH ?_
    rotate_left
    · ((intro w hSw; (try dsimp only at hSw); go_simp); try with_reducible rfl)
    simp only [Act.put, List.setIfInBounds_toArray, List.set_cons_zero, List.set_cons_succ]
    refine take_list (i := 5) (v := ?_) rfl (by kernel_rfl) (by kernel_rfl) (by kernel_rfl) (fun _ _ _ h => h) (Or.inl ⟨by rfl, ?_⟩) hH ?_
    rotate_left
    · ((intro w hSw; (try dsimp only at hSw); go_simp); try with_reducible rfl)
    simp only [Act.put, List.setIfInBounds_toArray, List.set_cons_zero, List.set_cons_succ]
    refine take_list (i := 6) (v := ?_) rfl (by kernel_rfl) (by kernel_rfl) (by kernel_rfl) (fun _ _ _ h => h) (Or.inl ⟨by rfl, ?_⟩) hH ?_
    rotate_left
    · ((intro w hSw; (try dsimp only at hSw); go_simp); try with_reducible rfl)
    simp only [Act.put, List.setIfInBounds_toArray, List.set_cons_zero, List.set_cons_succ]
    refine take_list (i := 7) (v := ?_) rfl (by kernel_rfl) (by kernel_rfl) (by kernel_rfl) (fun _ _ _ h => h) (Or.inl ⟨by rfl, ?_⟩) hH ?_
    rotate_left
    · ((intro w hSw; (try dsimp only at hSw); go_simp); try with_reducible rfl)
    simp only [Act.put, List.setIfInBounds_toArray, List.set_cons_zero, List.set_cons_succ]
    refine take_list (i := 8) (v := ?_) rfl (by kernel_rfl) (by kernel_rfl) (by kernel_rfl) (fun _ _ _ h => h) (Or.inl ⟨by rfl, ?_⟩) hH ?_
    rotate_left
    · ((intro w hSw; (try dsimp only at hSw); go_simp); try with_reducible rfl)
    simp only [Act.put, List.setIfInBounds_toArray, List.set_cons_zero, List.set_cons_succ]
    refine take_list (i := 9) (v := ?_) rfl (by kernel_rfl) (by kernel_rfl) (by kernel_rfl) (fun _ _ _ h => h) (Or.inl ⟨by rfl, ?_⟩) hH ?_
    rotate_left
    · ((intro w hSw; (try dsimp only at hSw); go_simp); try with_reducible rfl)
    simp only [Act.put, List.setIfInBounds_toArray, List.set_cons_zero, List.set_cons_succ]
    refine take_list (i := 10) (v := ?_) rfl (by kernel_rfl) (by kernel_rfl) (by kernel_rfl) (fun _ _ _ h => h) (Or.inl ⟨by rfl, ?_⟩) hH ?_
    rotate_left
    · ((intro w hSw; (try dsimp only at hSw); go_simp); try with_reducible rfl)
    simp only [Act.put, List.setIfInBounds_toArray, List.set_cons_zero, List.set_cons_succ]
    refine wpAnyH_done (by kernel_rfl) ?_ _
    clear hor hH
    go_wp2_with fail
    go_ret
    exact ⟨ret_i64 (by omega), 1, rfl⟩

/-! ### read -/
theorem place_raw {w : World} {p : Nat} {at_ : Int} {n : Nat} (c1 : w.cell? ⟨p, 1, none⟩ = some (.int .i64 (at_ + 2))) (c2 : w.cell? ⟨p, 2, none⟩ = some (.int .i64 n)) (hn : 2 ≤ n) (hx : n ≤ 2048) (ha : 0 ≤ at_) (hb : at_ + 2 + n ≤ 4096) (k : Nat) (hk : k ≤ 1152921504606846976) :
    Calls Try.prog 68 #[.pointer (some ⟨p, 0, none⟩), .int .i64 k] w fun e w' => e = .returned (.int .i64 (at_ + 2 + (k % n : Nat))) ∧ Drew w w' := by
  have hlt := Nat.mod_lt k (show 0 < n by omega)
  have e1 : (k : Int).tmod (n : Int) = ((k % n : Nat) : Int) := by rw [Int.tmod_eq_emod_of_nonneg (by omega)]; rfl
  have n0 : ¬ n = 0 := by omega
  generalize k % n = r at *
  have e2 : IntKind.i64.wrap (at_ + 2 + (r : Int)) = at_ + 2 + (r : Int) := by
    rw [IntKind.wrap_i64]
    omega
  have k0 : (0 : Int) ≤ (k : Int) := by omega
  go_enter Try.func68, Try.ntmps68
  go_wp2_with fail
  refine wp_region_held_drew (S := fun w' => w'.cell? ⟨p, 1, none⟩ = some (.int .i64 (at_ + 2)) ∧ w'.cell? ⟨p, 2, none⟩ = some (.int .i64 n)) (by kernel_rfl) ⟨c1, c2⟩ (fun hH => ?_)
  refine take_list (i := 0) (v := ?_) rfl (by kernel_rfl) (by kernel_rfl) (by kernel_rfl) (fun _ _ _ h => h) (Or.inl ⟨by rfl, ?_⟩) hH ?_
  rotate_left
  · ((intro w hSw; (try dsimp only at hSw); go_simp); try with_reducible rfl)
  simp only [Act.put, List.setIfInBounds_toArray, List.set_cons_zero, List.set_cons_succ]
  refine take_list (i := 1) (v := ?_) rfl (by kernel_rfl) (by kernel_rfl) (by kernel_rfl) (fun _ _ _ h => h) (Or.inl ⟨by rfl, ?_⟩) hH ?_
  rotate_left
  · ((intro w hSw; (try dsimp only at hSw); go_simp); try with_reducible rfl)
  simp only [Act.put, List.setIfInBounds_toArray, List.set_cons_zero, List.set_cons_succ]
  refine take_list (i := 2) (v := ?_) rfl (by kernel_rfl) (by kernel_rfl) (by kernel_rfl) (fun _ _ _ h => h) (Or.inl ⟨by rfl, ?_⟩) hH ?_
  rotate_left
  · ((intro w hSw; (try dsimp only at hSw); go_simp); try with_reducible rfl)
  simp only [Act.put, List.setIfInBounds_toArray, List.set_cons_zero, List.set_cons_succ]
  refine take_list (i := 3) (v := ?_) rfl (by kernel_rfl) (by kernel_rfl) (by kernel_rfl) (fun _ _ _ h => h) (Or.inl ⟨by rfl, ?_⟩) hH ?_
  rotate_left
  · ((intro w hSw; (try dsimp only at hSw); go_simp); try with_reducible rfl)
  simp only [Act.put, List.setIfInBounds_toArray, List.set_cons_zero, List.set_cons_succ]
  refine take_list (i := 4) (v := ?_) rfl (by kernel_rfl) (by kernel_rfl) (by kernel_rfl) (fun _ _ _ h => h) (Or.inl ⟨by rfl, ?_⟩) hH ?_
  rotate_left
  · ((intro w hSw; (try dsimp only at hSw); go_simp); try with_reducible rfl)
  simp only [Act.put, List.setIfInBounds_toArray, List.set_cons_zero, List.set_cons_succ]
  refine take_list (i := 5) (v := ?_) rfl (by kernel_rfl) (by kernel_rfl) (by kernel_rfl) (fun _ _ _ h => h) (Or.inl ⟨by rfl, ?_⟩) hH ?_
  rotate_left
  · ((intro w hSw; (try dsimp only at hSw); go_simp); try with_reducible rfl)
  simp only [Act.put, List.setIfInBounds_toArray, List.set_cons_zero, List.set_cons_succ]
  refine take_list (i := 6) (v := ?_) rfl (by kernel_rfl) (by kernel_rfl) (by kernel_rfl) (fun _ _ _ h => h) (Or.inl ⟨by rfl, ?_⟩) hH ?_
  rotate_left
  · ((intro w hSw; (try dsimp only at hSw); go_simp); try with_reducible rfl)
  simp only [Act.put, List.setIfInBounds_toArray, List.set_cons_zero, List.set_cons_succ]
  refine take_list (i := 7) (v := ?_) rfl (by kernel_rfl) (by kernel_rfl) (by kernel_rfl) (fun _ _ _ h => h) (Or.inl ⟨by rfl, ?_⟩) hH ?_
  rotate_left
  · ((intro w hSw; (try dsimp only at hSw); go_simp); try with_reducible rfl)
  simp only [Act.put, List.setIfInBounds_toArray, List.set_cons_zero, List.set_cons_succ]
  refine take_list (i := 8) (v := ?_) rfl (by kernel_rfl) (by kernel_rfl) (by kernel_rfl) (fun _ _ _ h => h) (Or.inl ⟨by rfl, ?_⟩) hH ?_
  rotate_left
  · ((intro w hSw; (try dsimp only at hSw); go_simp); try with_reducible rfl)
  simp only [Act.put, List.setIfInBounds_toArray, List.set_cons_zero, List.set_cons_succ]
  refine take_list (i := 9) (v := ?_) rfl (by kernel_rfl) (by kernel_rfl) (by kernel_rfl) (fun _ _ _ h => h) (Or.inl ⟨by rfl, ?_⟩) hH ?_
  rotate_left
  · ((intro w hSw; (try dsimp only at hSw); go_simp); try with_reducible rfl)
  simp only [Act.put, List.setIfInBounds_toArray, List.set_cons_zero, List.set_cons_succ]
  refine take_list (i := 10) (v := ?_) rfl (by kernel_rfl) (by kernel_rfl) (by kernel_rfl) (fun _ _ _ h => h) (Or.inl ⟨by rfl, ?_⟩) hH ?_
  rotate_left
  · ((intro w hSw; (try dsimp only at hSw); go_simp); try with_reducible rfl)
  simp only [Act.put, List.setIfInBounds_toArray, List.set_cons_zero, List.set_cons_succ]
  refine take_list (i := 11) (v := ?_) rfl (by kernel_rfl) (by kernel_rfl) (by kernel_rfl) (fun _ _ _ h => h) (Or.inl ⟨by rfl, ?_⟩) hH ?_
  rotate_left
  · ((intro w hSw; (try dsimp only at hSw); go_simp); try with_reducible rfl)
  simp only [Act.put, List.setIfInBounds_toArray, List.set_cons_zero, List.set_cons_succ]
  refine wpAnyH_done (by kernel_rfl) ?_ _
  go_wp2_with fail
  go_ret
  exact ⟨rfl, 1, rfl⟩
/-- The journal's ring: what of its block place and read look at. -/
structure RM (w : World) (p : Nat) (a : DA) (at_ : Int) (n : Nat) (d : Disk) : Prop where
  c0 : w.cell? ⟨p, 0, none⟩ = some (.pointer (some ⟨a.p, 0, none⟩))
  c1 : w.cell? ⟨p, 1, none⟩ = some (.int .i64 (at_ + 2))
  c2 : w.cell? ⟨p, 2, none⟩ = some (.int .i64 n)
  dev : Dev w a d
  n2 : 2 ≤ n
  nm : n ≤ 2048
  at0 : 0 ≤ at_
  here : at_ + 2 + n ≤ d.size
theorem RM.quiet {w w' : World} {p : Nat} {a : DA} {at_ : Int} {n : Nat} {d : Disk} (h : RM w p a at_ n d) (ho : Only [] w w') : RM w' p a at_ n d :=
  ⟨cell_kept ho h.c0 (by simp), cell_kept ho h.c1 (by simp), cell_kept ho h.c2 (by simp), h.dev.kept ho (by simp), h.n2, h.nm, h.at0, h.here⟩
set_option maxRecDepth 100000 in
set_option maxHeartbeats 1600000 in
theorem jread_any {w : World} {p : Nat} {a : DA} {at_ : Int} {n : Nat} {d : Disk} (hm : RM w p a at_ n d) (hdn : d.met.down = false) (k : Nat) (hk : k ≤ 1152921504606846976) (b : Sec) (hp : IsPiece (d.get (at_ + 2 + (k % n : Nat))) k b) :
    Calls Try.prog 53 #[.pointer (some ⟨p, 0, none⟩), .int .i64 k] w fun e w' => ∃ x c, e = .returned (.tuple #[.slice x 470 c, .nilIface]) ∧ Own w' w.heap.size (.slice x 470 c) b ∧ Only [] w w' := by
  have hhi := hm.dev.hi
  have hhere := hm.here
  have hpl := place_raw hm.c1 hm.c2 hm.n2 hm.nm hm.at0 (by omega) k hk
  have hlt := Nat.mod_lt k (show 0 < n by have := hm.n2; omega)
  have hat0 := hm.at0
  have hin : inB (at_ + 2 + (k % n : Nat)) d.size = true := inB_iff.2 ⟨by omega, by omega⟩
  have M0 := Lib.hid hm
  generalize hPL : at_ + 2 + ((k % n : Nat) : Int) = pl at hp hpl hin
  have HPL := Lib.hid hPL
  clear hPL
  obtain ⟨hp1, hp2⟩ := hp
  have hnl := num_len (k := k) (by omega)
  have htk := takeN_num (n := (k : Int)) (by omega) (by omega) b
  have hget := hm.dev.get_length pl
  generalize hG : d.get pl = G at hp1 hget
  have HG := Lib.hid hG
  have HTK := Lib.hid htk
  have HP1 := Lib.hid hp1
  have HP2 := Lib.hid hp2
  have HIN := Lib.hid hin
  have HDN := Lib.hid hdn
  have hdl : (num (k : Int) ++ b).length = (num (k : Int)).length + 470 := by rw [List.length_append, hp2]
  have hdr : (num (k : Int) ++ b).drop (num (k : Int)).length = b := by simp
  have HDR := Lib.hid hdr
  have q1 := iface_ne
  have hd2 : (num (k : Int) ++ b).length - (num (k : Int)).length = 470 := by omega
  have HD2 := Lib.hid hd2
  have hnl2 : (num (k : Int) ++ b).length ≤ 500 := by omega
  clear hm hp1 hp2 htk hG hin hdn hdr hdl hd2
  generalize num (k : Int) ++ b = E at *
  go_enter Try.func53, Try.ntmps53
  go_wp2_with fail
  have o1 : Only [] w w.drew := (Only.refl [] w).drew
  have M1 := Lib.hid (M0.out.quiet o1)
  have O1 := Lib.hid o1
  clear o1 hpl
  refine wp_region_held_drew (S := fun w' => w'.cell? ⟨p, 0, none⟩ = some (.pointer (some ⟨a.p, 0, none⟩))) (by kernel_rfl) M1.out.c0 (fun hH => ?_)
  refine take_list (i := 0) (v := ?_) rfl (by kernel_rfl) (by kernel_rfl) (by kernel_rfl) (fun _ _ _ h => h) (Or.inl ⟨by rfl, ?_⟩) hH ?_
  rotate_left
  · ((intro w hSw; (try dsimp only at hSw); go_simp); try with_reducible rfl)
  simp only [Act.put, List.setIfInBounds_toArray, List.set_cons_zero, List.set_cons_succ]
  refine take_list (i := 1) (v := ?_) rfl (by kernel_rfl) (by kernel_rfl) (by kernel_rfl) (fun _ _ _ h => h) (Or.inl ⟨by rfl, ?_⟩) hH ?_
  rotate_left
  · ((intro w hSw; (try dsimp only at hSw); go_simp); try with_reducible rfl)
  simp only [Act.put, List.setIfInBounds_toArray, List.set_cons_zero, List.set_cons_succ]
  refine take_list (i := 2) (v := ?_) rfl (by kernel_rfl) (by kernel_rfl) (by kernel_rfl) (fun _ _ _ h => h) (Or.inl ⟨by rfl, ?_⟩) hH ?_
  rotate_left
  · ((intro w hSw; (try dsimp only at hSw); go_simp); try with_reducible rfl)
  simp only [Act.put, List.setIfInBounds_toArray, List.set_cons_zero, List.set_cons_succ]
  refine take_list (i := 3) (v := ?_) rfl (by kernel_rfl) (by kernel_rfl) (by kernel_rfl) (fun _ _ _ h => h) (Or.inl ⟨by rfl, ?_⟩) hH ?_
  rotate_left
  · ((intro w hSw; (try dsimp only at hSw); go_simp); try with_reducible rfl)
  simp only [Act.put, List.setIfInBounds_toArray, List.set_cons_zero, List.set_cons_succ]
  refine take_list (i := 4) (v := ?_) rfl (by kernel_rfl) (by kernel_rfl) (by kernel_rfl) (fun _ _ _ h => h) (Or.inl ⟨by rfl, ?_⟩) hH ?_
  rotate_left
  · ((intro w hSw; (try dsimp only at hSw); go_simp); try with_reducible rfl)
  simp only [Act.put, List.setIfInBounds_toArray, List.set_cons_zero, List.set_cons_succ]
  refine take_list (i := 5) (v := ?_) rfl (by kernel_rfl) (by kernel_rfl) (by kernel_rfl) (fun _ _ _ h => h) (Or.inl ⟨by rfl, ?_⟩) hH ?_
  rotate_left
  · ((intro w hSw; (try dsimp only at hSw); go_simp); try with_reducible rfl)
  simp only [Act.put, List.setIfInBounds_toArray, List.set_cons_zero, List.set_cons_succ]
  refine wpAnyH_ready (rs := [6]) (by kernel_rfl) (by simp) ?_
  refine ready_list rfl (fun K hK => ?_)
  go_simp
  refine (place_raw M1.out.c1 M1.out.c2 M1.out.n2 M1.out.nm M1.out.at0 (by omega) k hk).mono ?_
  rintro e w2 ⟨rfl, hd2⟩
  have M2 := Lib.hid (M1.out.quiet hd2.only)
  have O2 := Lib.hid (O1.out.trans hd2.only (by simp))
  rw [HPL.out]
  refine hK.out _ _ M2.out.c0 (fun hH => ?_)
  clear hK K hd2 M1 O1
  refine wpAnyH_ready (rs := [7]) (by kernel_rfl) (by simp) ?_
  refine ready_list rfl (fun K hK => ?_)
  go_simp
  refine (Read_any a d pl w2 M2.out.dev HIN.out HDN.out).mono ?_
  rintro e w3 ⟨g3, rfl, b3, _, o3⟩
  rw [HG.out] at b3
  have hb3 := b3.bytes 512
  rw [hget] at hb3
  have B3 := Lib.hid hb3
  have M3 := Lib.hid (M2.out.quiet o3)
  have O3 := Lib.hid (O2.out.trans o3 (by simp))
  refine hK.out _ _ M3.out.c0 (fun hH => ?_)
  clear hK K b3 hb3 o3 M2 O2
  refine take_list (i := 8) (v := ?_) rfl (by kernel_rfl) (by kernel_rfl) (by kernel_rfl) (fun _ _ _ h => h) (Or.inl ⟨by rfl, ?_⟩) hH ?_
  rotate_left
  · ((intro w hSw; (try dsimp only at hSw); go_simp); try with_reducible rfl)
  simp only [Act.put, List.setIfInBounds_toArray, List.set_cons_zero, List.set_cons_succ]
  refine take_list (i := 9) (v := ?_) rfl (by kernel_rfl) (by kernel_rfl) (by kernel_rfl) (fun _ _ _ h => h) (Or.inl ⟨by rfl, ?_⟩) hH ?_
  rotate_left
  · ((intro w hSw; (try dsimp only at hSw); go_simp); try with_reducible rfl)
  simp only [Act.put, List.setIfInBounds_toArray, List.set_cons_zero, List.set_cons_succ]
  refine take_list (i := 10) (v := ?_) rfl (by kernel_rfl) (by kernel_rfl) (by kernel_rfl) (fun _ _ _ h => h) (Or.inl ⟨by rfl, ?_⟩) hH ?_
  rotate_left
  · ((intro w hSw; (try dsimp only at hSw); go_simp); try with_reducible rfl)
  simp only [Act.put, List.setIfInBounds_toArray, List.set_cons_zero, List.set_cons_succ]
  refine take_list (i := 11) (v := ?_) rfl (by kernel_rfl) (by kernel_rfl) (by kernel_rfl) (fun _ _ _ h => h) (Or.inl ⟨by rfl, ?_⟩) hH ?_
  rotate_left
  · ((intro w hSw; (try dsimp only at hSw); go_simp); try with_reducible rfl)
  simp only [Act.put, List.setIfInBounds_toArray, List.set_cons_zero, List.set_cons_succ]
  refine take_list (i := 12) (v := ?_) rfl (by kernel_rfl) (by kernel_rfl) (by kernel_rfl) (fun _ _ _ h => h) (Or.inl ⟨by rfl, ?_⟩) hH ?_
  rotate_left
  · ((intro w hSw; (try dsimp only at hSw); go_simp); try with_reducible rfl)
  simp only [Act.put, List.setIfInBounds_toArray, List.set_cons_zero, List.set_cons_succ]
  refine wpAnyH_done (by kernel_rfl) ?_ _
  clear hH
  go_wp2_with fail
  have hun := Unbox_any (.slice (some ⟨g3, 0, none⟩) 512 512) G w3 B3.out (fit_at (Nat.le_refl _) (by decide)) (by omega)
  refine hun.mono ?_
  rintro e w4 ⟨_, hy4, o4⟩
  obtain ⟨a4, k4, rfl, h4⟩ := hy4 _ HP1.out
  have H4 := Lib.hid h4
  have O4 := Lib.hid (O3.out.trans o4 (by simp))
  clear hun hy4 h4 o4 B3 M3 O3
  go_wp2_with fail
  refine (Take_some _ E w4 H4.out.bytes H4.out.fit (by omega) (k : Int) (num (k : Int)).length HTK.out).mono ?_
  rw [HD2.out, HDR.out]
  rintro e w5 ⟨a5, k5, rfl, h5, o5⟩
  have F := Lib.hid (And.intro (h5.mono (base' := w.heap.size) O4.out.size) (O4.out.trans o5 (by simp)))
  have hkk : ((k : Int) != (k : Int)) = false := by simp
  clear h5 o5 H4 O4
  go_wp2_with fail
  go_ret2
  exact ⟨a5, k5, rfl, F.out.1, F.out.2⟩
end Go.Proofs.Ytmjnbpcjpjefeaa
/- A journal: load. -/
namespace Go.Proofs.Ytmjnbpcjpjefeaa
open Go.RowKit Go.Maps
set_option linter.unusedSimpArgs false
set_option linter.unusedVariables false

theorem jend_raw {w : World} {p : Nat} {b n : Nat} {sa : Option Addr} {sc : Nat} (c4 : w.cell? ⟨p, 4, none⟩ = some (.int .i64 b)) (c5 : w.cell? ⟨p, 5, none⟩ = some (.slice sa n sc)) (h : b + n ≤ 1152921504606846976) :
    Calls Try.prog 45 #[.pointer (some ⟨p, 0, none⟩)] w fun e w' => e = .returned (.int .i64 ((b + n : Nat) : Int)) ∧ Drew w w' := by
  go_enter Try.func45, Try.ntmps45
  go_wp2_with fail
  go_quiet (fail)
  go_wp2_with fail
  go_ret
  exact ⟨ret_i64 (by omega), _, rfl⟩
theorem jnext_raw {w : World} {p : Nat} {f n : Nat} {ta : Option Addr} {tc : Nat} (c6 : w.cell? ⟨p, 6, none⟩ = some (.int .i64 f)) (c7 : w.cell? ⟨p, 7, none⟩ = some (.slice ta n tc)) (h : f + n ≤ 1152921504606846976) :
    Calls Try.prog 12 #[.pointer (some ⟨p, 0, none⟩)] w fun e w' => e = .returned (.int .i64 ((f + n : Nat) : Int)) ∧ Drew w w' := by
  go_enter Try.func12, Try.ntmps12
  go_wp2_with fail
  go_quiet (fail)
  go_wp2_with fail
  go_ret
  exact ⟨ret_i64 (by omega), _, rfl⟩
theorem jis_nil (e : Value) (w : World) : Calls Try.prog 54 #[.nilIface, err 4] w fun e w' => e = .returned (.bool false) ∧ w = w' := by
  have q1 : ∀ w, (binOp .eql 27 .nilIface .nilIface).run Try.prog w = .ok (.bool true) w := fun w => by kernel_rfl
  have q2 : ∀ w, (binOp .eql 27 .nilIface (err 4)).run Try.prog w = .ok (.bool false) w := fun w => by kernel_rfl
  go_enter Try.func54, Try.ntmps54
  go_wp2_with fail
  go_ret
  exact ⟨rfl, rfl⟩

/-- The cells of a journal that is being loaded. -/
def lcells (p q : Nat) (a : DA) (at_ : Int) (n : Nat) (base : Nat) (vs : Value) (first : Nat) (vt vn : Value) : Array Value :=
  #[.pointer (some ⟨a.p, 0, none⟩), .int .i64 (at_ + 2), .int .i64 n, .pointer (some ⟨q, 0, none⟩), .int .i64 base, vs, .int .i64 first, vt, .int .i64 0, vn, .int .i64 0, .bool false]
/-- Whether another whole record stands in the first m bytes. -/
def Done (recs : List Sec) (i m : Nat) : Prop := i ≤ recs.length ∧ pos recs i ≤ m ∧ (i = recs.length ∨ m < pos recs (i + 1))
theorem Done.start (recs : List Sec) : Done recs 0 0 := by
  refine ⟨Nat.zero_le _, by rw [pos_zero]; exact Nat.le_refl _, ?_⟩
  by_cases h : 0 = recs.length
  · exact .inl h
  · right
    rw [pos_succ (List.getElem?_eq_getElem (show 0 < recs.length by omega))]
    omega
theorem Done.end_ {recs : List Sec} {i m : Nat} (h : Done recs i m) (hm : m = (flat recs).length) : i = recs.length := by
  rcases h.2.2 with e | e
  · exact e
  · have := pos_le recs (i + 1)
    omega
theorem wholeN_at {recs : List Sec} {i m : Nat} (hi : i ≤ recs.length) (hr : ∀ r ∈ recs, 1 ≤ r.length ∧ r.length ≤ 4096) (h0 : pos recs i ≤ m) (h1 : m ≤ (flat recs).length) :
    (wholeN (((flat recs).take m).drop (pos recs i)) = 0 ∧ Done recs i m) ∨ (∃ r, recs[i]? = some r ∧ wholeN (((flat recs).take m).drop (pos recs i)) = r.length + 2 ∧ pos recs (i + 1) ≤ m) := by
  by_cases h : i = recs.length
  · left
    have hp : pos recs i = (flat recs).length := pos_all (by omega)
    refine ⟨?_, hi, h0, .inl h⟩
    rw [List.drop_eq_nil_of_le (by rw [List.length_take]; omega)]
    rfl
  · have hlt : i < recs.length := by omega
    have hri := List.getElem?_eq_getElem hlt
    have hw := wholeN_part hri (by have := hr _ (List.getElem_mem hlt); omega) h0 h1
    by_cases h2 : pos recs (i + 1) ≤ m
    · right
      rw [if_pos h2] at hw
      exact ⟨_, hri, hw, h2⟩
    · left
      rw [if_neg h2] at hw
      exact ⟨hw, hi, h0, .inr (by omega)⟩
theorem sliceAll {w : World} {va : Option Addr} {n vc : Nat} (hf : n ≤ vc) (kk : IntKind) : ∀ w, (Instr.sliceAt 39 (.slice va n vc) none (some (.int kk (n : Int))) none).run Try.prog w = .ok (.slice va n vc) w := by
  intro w
  rw [run_sliceAt_slice w _ _ _ _ _ elem_bytes, run_slice_h w _ _ _ _ elem_bytes kk (n : Int) (by omega) (by omega), size_u8]
  cases va <;> simp [Result.andThen, sliced, Addr.add]

theorem JW.rm {w : World} {p q : Nat} {a : DA} {at_ : Int} {n base first : Nat} {vs vt vn vr : Value} {S N : Sec} {T : List Int} {d : Disk} {s : SL} (h : JW w p q a (lcells p q a at_ n base vs first vt vn) vs vt vn vr S T N d s) (hn2 : 2 ≤ n) (hnm : n ≤ 2048) (hat : 0 ≤ at_) (hhere : at_ + 2 + n ≤ d.size) : RM w p a at_ n d :=
  ⟨h.cell 0, h.cell 1, h.cell 2, h.dev, hn2, hnm, hat, hhere⟩
theorem take_more {S : Sec} {m m2 : Nat} (h : m ≤ m2) : S.take m ++ (S.take m2).drop m = S.take m2 := by
  have h1 : (S.take m2).take m = S.take m := by rw [List.take_take, Nat.min_eq_left h]
  rw [← h1, List.take_append_drop]
theorem BBlk.own {w : World} {g : Nat} {l : Sec} (h : BBlk w g l) (hl : l.length ≤ maxLen) : Own w 0 (.slice (some ⟨g, 0, none⟩) l.length l.length) l := by
  refine ⟨by simp [bv], .inr ⟨g, l.length, _, rfl, Nat.zero_le _, h, Nat.le_refl _, hl, by simp, ?_⟩⟩
  rw [Nat.mul_one, List.take_of_length_le (by simp)]
  simp [enc, bv]
structure LRel (w wr : World) (p q : Nat) (a : DA) (at_ : Int) (n first start B O : Nat) (recs : List Sec) (note : Sec) (vn vr : Value) (d : Disk) (s : SL) (i m : Nat) : Prop where
  st : ∃ sa sc ta tc, JW wr p q a (lcells p q a at_ n B (.slice sa (O + m) sc) first (.slice ta i tc) vn) (.slice sa (O + m) sc) (.slice ta i tc) vn vr (zs O ++ (flat recs).take m) (offs start (recs.take i)) note d s ∧
    (∀ g, (Value.slice sa (O + m) sc).ownBlock = some g → w.heap.size ≤ g) ∧ ∀ g, (Value.slice ta i tc).ownBlock = some g → w.heap.size ≤ g
  only : Only [p] w wr
  mle : m ≤ (flat recs).length
theorem LRel.quiet {w wr wr' : World} {p q : Nat} {a : DA} {at_ : Int} {n first start B O : Nat} {recs : List Sec} {note : Sec} {vn vr : Value} {d : Disk} {s : SL} {i m : Nat} (h : LRel w wr p q a at_ n first start B O recs note vn vr d s i m) (ho : Only [] wr wr') : LRel w wr' p q a at_ n first start B O recs note vn vr d s i m := by
  obtain ⟨⟨sa, sc, ta, tc, h1, h2, h3⟩, h4, h5⟩ := h
  exact ⟨⟨sa, sc, ta, tc, h1.quiet ho, h2, h3⟩, h4.trans ho (by simp), h5⟩

set_option maxRecDepth 100000 in
set_option maxHeartbeats 8000000 in
theorem jload_any {w : World} {p q : Nat} {a : DA} {at_ : Int} {n first start : Nat} {recs : List Sec} {note : Sec} {vn vr : Value} {d : Disk} {s : SL}
    (hj : JW w p q a (lcells p q a at_ n 0 (.slice none 0 0) first (.slice none 0 0) vn) (.slice none 0 0) (.slice none 0 0) vn vr [] [] note d s) (hdn : d.met.down = false)
    (hring : Ring d.get (at_ + 2) n start (flat recs)) (hrecs : ∀ r ∈ recs, 1 ≤ r.length ∧ r.length ≤ 4096) (hroom : start % 470 + (flat recs).length ≤ n * 470) (hn2 : 2 ≤ n) (hnm : n ≤ 2048) (hat : 0 ≤ at_) (hhere : at_ + 2 + n ≤ d.size)
    (hf1 : 1 ≤ first) (hnext : first + recs.length ≤ 1152921504606846976) (hfin : start + (flat recs).length ≤ 1152921504606846976) (hnote : note.length ≤ 400) (hsat : s.at_ = at_) (E : Nat) (hE : E = start + (flat recs).length) :
    Calls Try.prog 37 #[.pointer (some ⟨p, 0, none⟩), .int .i64 start, .int .i64 E] w fun e w' => e = .returned .nilIface ∧
      ∃ vs vt, JM w' p q a vs vt vn vr d ⟨at_, n, first, start, zs (start % 470), recs, recs.length, note, 0, false⟩ s ∧ (∀ g, vs.ownBlock = some g → w.heap.size ≤ g) ∧ (∀ g, vt.ownBlock = some g → w.heap.size ≤ g) ∧ Only [p] w w' := by
  have q1 := iface_ne
  have J0 := Lib.hid hj
  have HR := Lib.hid hring
  have HRECS := Lib.hid hrecs
  have HDN := Lib.hid hdn
  have HSAT := Lib.hid hsat
  have hmod := Nat.mod_lt start (show 0 < 470 by omega)
  have hml := Nat.mod_le start 470
  have hbw : (start : Int) - (start : Int) % 470 = ((start - start % 470 : Nat) : Int) := by omega
  have hbd : (start : Int) - ((start - start % 470 : Nat) : Int) = ((start % 470 : Nat) : Int) := by omega
  have c4 : w.cell? ⟨p, 4, none⟩ = some (.int .i64 0) := hj.cell 4
  have c5 : w.cell? ⟨p, 5, none⟩ = some (.slice none 0 0) := hj.cell 5
  have f4 := hj.free 4
  have f5 := hj.free 5
  have hsl : start ≤ 1152921504606846976 := by omega
  have HBW := Lib.hid hbw
  have HBD := Lib.hid hbd
  clear hj hring hrecs hdn hsat
  generalize hL : (flat recs).length = L at *
  have HL := Lib.hid hL
  clear hL
  generalize hB : start - start % 470 = B at *
  have HB := Lib.hid hB
  have hB2 : B ≤ start := by omega
  have hB3 : start ≤ B + 469 := by omega
  clear hB
  generalize hO : start % 470 = O at *
  have HO := Lib.hid hO
  clear hO
  have hBO : B + O = start := by omega
  have HE := Lib.hid hE
  have hE1 : start ≤ E := by omega
  have hE2 : E ≤ 1152921504606846976 := by omega
  have hE3 : E ≤ start + L := by omega
  have hE4 : start + L ≤ E := by omega
  clear hE
  have hbw := HBW.out
  go_enter Try.func37, Try.ntmps37
  go_wp2_with fail
  go_step3
  go_upto_region 2 with (fail)
  have J1 := Lib.hid (J0.out.set 4 (.int .i64 (B : Nat)))
  have o1 : Only [p] w (w.setCell ⟨p, 4, none⟩ (.int .i64 (B : Nat))) := (Only.refl _ _).setCell (by simp) _
  have O1 := Lib.hid o1
  generalize w.setCell ⟨p, 4, none⟩ (.int .i64 (B : Nat)) = w1 at J1 o1 O1 ⊢
  have c4 : w1.cell? ⟨p, 4, none⟩ = some (.int .i64 (B : Nat)) := J1.out.cell 4
  clear o1 c5 f4 f5 hbw
  have hbd := HBD.out
  go_wp2_with (
    refine wpList_make_zero rfl (.tmp 25) (.tmp 25) rfl O (by rfl) (by rfl) (by omega) ?_
    intro w2 g b2 hg2 o2
    have ZB := lt_of_heap b2
    have HW2 := Lib.hid (BBlk.own b2 (by rw [List.length_replicate]; unfold maxLen; omega))
    rw [List.length_replicate] at HW2
    have J2 := Lib.hid (J1.out.quiet o2)
    have O2 := Lib.hid (O1.out.trans o2 (by simp))
    have Z1 := O1.out.size
    have G2 := Lib.hid (Nat.le_trans Z1 hg2)
    have c5 : w2.cell? ⟨p, 5, none⟩ = some (.slice none 0 0) := J2.out.cell 5
    have f5 := J2.out.free 5
    clear b2 o2 J1 O1 Z1)
  have J3 := Lib.hid ((J2.out.withS HW2.out (sep_fresh (v := .slice (some ⟨g, 0, none⟩) O O) J0.out.note (fun x hx => by cases hx; exact G2.out)) (sep_fresh (v := .slice (some ⟨g, 0, none⟩) O O) J0.out.slot.row (fun x hx => by cases hx; exact G2.out))).set 5 (.slice (some ⟨g, 0, none⟩) O O))
  have o3 : Only [p] w2 (w2.setCell ⟨p, 5, none⟩ (.slice (some ⟨g, 0, none⟩) O O)) := (Only.refl _ _).setCell (by simp) _
  have O3 := Lib.hid (O2.out.trans o3 (fun k hk => .inl hk))
  generalize w2.setCell ⟨p, 5, none⟩ (.slice (some ⟨g, 0, none⟩) O O) = w3 at J3 o3 O3 ⊢
  clear o3 J2 O2 HW2 f5 c5 ZB hbd
  go_step3
  go_wp2_with fail
  have e0 : zs O ++ (flat recs).take 0 = zs O := by simp
  have L3 := Lib.hid (show LRel w w3 p q a at_ n first start B O recs note vn vr d s 0 0 from ⟨⟨some ⟨g, 0, none⟩, O, none, 0, by rw [e0]; exact J3.out, (fun x hx => by cases hx; exact G2.out), (fun x hx => by cases hx)⟩, O3.out, Nat.zero_le _⟩)
  clear e0
  go_loopg [7] L (fun gk s7 wr => ∃ i m : Nat, s7 = .int .i64 ((start + pos recs i : Nat) : Int) ∧ m + gk = L ∧ Done recs i m ∧ LRel w wr p q a at_ n first start B O recs note vn vr d s i m)
  case atStart => exact ⟨0, 0, by rw [pos_zero]; rfl, by omega, Done.start recs, L3.out⟩
  case round =>
    clear L3 J3 O3 G2 c4
    obtain ⟨i, m, rfl, hmg, hdone, hl⟩ := hrel
    have HDONE := Lib.hid hdone
    have hml2 : m ≤ L := by have := hl.mle; rw [HL.out] at this; exact this
    have hil : i ≤ recs.length := hdone.1
    have hpi : pos recs i ≤ m := hdone.2.1
    obtain ⟨⟨sa, sc, ta, tc, jw, gs, gt⟩, ho, _⟩ := hl
    generalize hy : O + m = y at jw gs gt
    have HY := Lib.hid hy
    have hy1 : y ≤ O + m := by omega
    have hy2 : O + m ≤ y := by omega
    clear hy
    generalize hnx : start + pos recs i = nx
    have HNX := Lib.hid hnx
    have hnx1 : start ≤ nx := by omega
    have hnx2 : nx ≤ start + m := by omega
    clear hnx
    have JW0 := Lib.hid jw
    have GS := Lib.hid gs
    have GT := Lib.hid gt
    have HO4 := Lib.hid ho
    have c4 : wr.cell? ⟨p, 4, none⟩ = some (.int .i64 (B : Nat)) := jw.cell 4
    have c5 : wr.cell? ⟨p, 5, none⟩ = some (.slice sa y sc) := jw.cell 5
    have hend := jend_raw c4 c5 (by omega)
    rw [show B + y = start + m by omega] at hend
    generalize hz : start + m = z at hend
    have HZ := Lib.hid hz
    have hz1 : start ≤ z := by omega
    have hz2 : z ≤ start + L := by omega
    clear jw gs gt ho hz hdone
    by_cases hlt : m < L
    rotate_left
    · have hme : m = L := by omega
      have hzE : ¬ (z : Int) < (E : Int) := by have := HZ.out; omega
      have hie : i = recs.length := HDONE.out.end_ (by rw [HL.out]; exact hme)
      have HIE := Lib.hid hie
      have HME := Lib.hid hme
      have hpL : nx = start + L := by rw [← HNX.out, hie, pos_all (Nat.le_refl _), HL.out]
      have hidx : (nx : Int) - (B : Int) = (y : Int) := by omega
      have HIDX := Lib.hid hidx
      clear hie hme hlt hpi hpL hidx
      go_wp2_with fail
      refine hend.mono ?_
      rintro e w5 ⟨rfl, hd5⟩
      have J5 := Lib.hid (JW0.out.quiet hd5.only)
      have O5 := Lib.hid (HO4.out.trans hd5.only (by simp))
      clear hd5 hend c4 c5
      go_wp2_with fail
      have o6 : Only [] w5 w5.drew := (Only.refl [] w5).drew
      have J6 := Lib.hid (J5.out.quiet o6)
      have O6 := Lib.hid (O5.out.trans o6 (by simp))
      clear o6 J5 O5 JW0 HO4
      have hwi : IntKind.i64.wrap ((nx : Int) - (B : Int)) = (y : Int) := by
        rw [IntKind.wrap_i64]
        have := HIDX.out
        omega
      have hysc : y ≤ sc := (J6.out.str.fit _ _ _ rfl).1
      have hrun := sliceAll (w := w5) (va := sa) hysc .i64
      refine wp_region_B (S := fun w' => w'.cell? ⟨p, 4, none⟩ = some (.int .i64 (B : Nat)) ∧ w'.cell? ⟨p, 5, none⟩ = some (.slice sa y sc)) [0, 1, 2, 3, 4, 5, 6, 7, 8, 9, 10, 11, 12, 13] (by kernel_rfl) ⟨J6.out.cell 4, J6.out.cell 5⟩ (fun hH => ?_)
      generalize w5.drew = wd at hH J6 O6 ⊢
      refine takeB_list (i := 0) (v := ?_) rfl (by kernel_rfl) (by kernel_rfl) (by kernel_rfl) (by kernel_rfl) (fun _ _ _ h => h) (Or.inl ⟨by rfl, ?_⟩) hH ?_
      rotate_left
      · ((intro w hSw; (try dsimp only at hSw); go_simp); try with_reducible rfl)
      simp only [Act.put, List.setIfInBounds_toArray, List.set_cons_zero, List.set_cons_succ]
      refine takeB_list (i := 1) (v := ?_) rfl (by kernel_rfl) (by kernel_rfl) (by kernel_rfl) (by kernel_rfl) (fun _ _ _ h => h) (Or.inl ⟨by rfl, ?_⟩) hH ?_
      rotate_left
      · ((intro w hSw; (try dsimp only at hSw); go_simp); try with_reducible rfl)
      simp only [Act.put, List.setIfInBounds_toArray, List.set_cons_zero, List.set_cons_succ]
      refine takeB_list (i := 2) (v := ?_) rfl (by kernel_rfl) (by kernel_rfl) (by kernel_rfl) (by kernel_rfl) (fun _ _ _ h => h) (Or.inl ⟨by rfl, ?_⟩) hH ?_
      rotate_left
      · ((intro w hSw; (try dsimp only at hSw); go_simp); try with_reducible rfl)
      simp only [Act.put, List.setIfInBounds_toArray, List.set_cons_zero, List.set_cons_succ]
      refine takeB_list (i := 3) (v := ?_) rfl (by kernel_rfl) (by kernel_rfl) (by kernel_rfl) (by kernel_rfl) (fun _ _ _ h => h) (Or.inl ⟨by rfl, ?_⟩) hH ?_
      rotate_left
      · ((intro w hSw; (try dsimp only at hSw); go_simp); try with_reducible rfl)
      simp only [Act.put, List.setIfInBounds_toArray, List.set_cons_zero, List.set_cons_succ]
      refine takeB_list (i := 4) (v := ?_) rfl (by kernel_rfl) (by kernel_rfl) (by kernel_rfl) (by kernel_rfl) (fun _ _ _ h => h) (Or.inl ⟨by rfl, ?_⟩) hH ?_
      rotate_left
      · ((intro w hSw; (try dsimp only at hSw); go_simp); try with_reducible rfl)
      simp only [Act.put, List.setIfInBounds_toArray, List.set_cons_zero, List.set_cons_succ]
      refine takeB_list (i := 5) (v := ?_) rfl (by kernel_rfl) (by kernel_rfl) (by kernel_rfl) (by kernel_rfl) (fun _ _ _ h => h) (Or.inl ⟨by rfl, ?_⟩) hH ?_
      rotate_left
      · ((intro w hSw; (try dsimp only at hSw); go_simp); try with_reducible rfl)
      simp only [Act.put, List.setIfInBounds_toArray, List.set_cons_zero, List.set_cons_succ]
      refine takeB_list (i := 6) (v := ?_) rfl (by kernel_rfl) (by kernel_rfl) (by kernel_rfl) (by kernel_rfl) (fun _ _ _ h => h) (Or.inl ⟨by rfl, ?_⟩) hH ?_
      rotate_left
      · ((intro w hSw; (try dsimp only at hSw); go_simp); try with_reducible rfl)
      simp only [Act.put, List.setIfInBounds_toArray, List.set_cons_zero, List.set_cons_succ]
      refine takeB_list (i := 7) (v := ?_) rfl (by kernel_rfl) (by kernel_rfl) (by kernel_rfl) (by kernel_rfl) (fun _ _ _ h => h) (Or.inl ⟨by rfl, ?_⟩) hH ?_
      rotate_left
      · ((intro w hSw; (try dsimp only at hSw); go_simp); try with_reducible rfl)
      simp only [Act.put, List.setIfInBounds_toArray, List.set_cons_zero, List.set_cons_succ]
      refine takeB_list (i := 8) (v := ?_) rfl (by kernel_rfl) (by kernel_rfl) (by kernel_rfl) (by kernel_rfl) (fun _ _ _ h => h) (Or.inl ⟨by rfl, ?_⟩) hH ?_
      rotate_left
      · ((intro w hSw; (try dsimp only at hSw); go_simp); try with_reducible rfl)
      simp only [Act.put, List.setIfInBounds_toArray, List.set_cons_zero, List.set_cons_succ]
      refine takeB_list (i := 9) (v := ?_) rfl (by kernel_rfl) (by kernel_rfl) (by kernel_rfl) (by kernel_rfl) (fun _ _ _ h => h) (Or.inl ⟨by rfl, ?_⟩) hH ?_
      rotate_left
      · ((intro w hSw; (try dsimp only at hSw); go_simp); try with_reducible rfl)
      simp only [Act.put, List.setIfInBounds_toArray, List.set_cons_zero, List.set_cons_succ]
      refine takeB_list (i := 10) (v := ?_) rfl (by kernel_rfl) (by kernel_rfl) (by kernel_rfl) (by kernel_rfl) (fun _ _ _ h => h) (Or.inl ⟨by rfl, ?_⟩) hH ?_
      rotate_left
      · ((intro w hSw; (try dsimp only at hSw); go_simp); try with_reducible rfl)
      simp only [Act.put, List.setIfInBounds_toArray, List.set_cons_zero, List.set_cons_succ]
      refine takeB_list (i := 11) (v := ?_) rfl (by kernel_rfl) (by kernel_rfl) (by kernel_rfl) (by kernel_rfl) (fun _ _ _ h => h) (Or.inl ⟨by rfl, ?_⟩) hH ?_
      rotate_left
      · ((intro w hSw; (try dsimp only at hSw); go_simp); try with_reducible rfl)
      simp only [Act.put, List.setIfInBounds_toArray, List.set_cons_zero, List.set_cons_succ]
      refine takeB_list (i := 12) (v := ?_) rfl (by kernel_rfl) (by kernel_rfl) (by kernel_rfl) (by kernel_rfl) (fun _ _ _ h => h) (Or.inl ⟨by rfl, ?_⟩) hH ?_
      rotate_left
      · ((intro w hSw; (try dsimp only at hSw); go_simp); try with_reducible rfl)
      simp only [Act.put, List.setIfInBounds_toArray, List.set_cons_zero, List.set_cons_succ]
      refine takeB_list (i := 13) (v := ?_) rfl (by kernel_rfl) (by kernel_rfl) (by kernel_rfl) (by kernel_rfl) (fun _ _ _ h => h) (Or.inl ⟨by rfl, ?_⟩) hH ?_
      rotate_left
      · ((intro w hSw; (try dsimp only at hSw); go_simp); try with_reducible rfl)
      simp only [Act.put, List.setIfInBounds_toArray, List.set_cons_zero, List.set_cons_succ]
      clear hrun hwi
      have c5 : wd.cell? ⟨p, 5, none⟩ = some (.slice sa y sc) := J6.out.cell 5
      have f5 := J6.out.free 5
      refine readyB_out (i := 14) (by kernel_rfl) (by kernel_rfl) rfl (fun K hK => ?_)
      go_simp
      refine hK.out _ _ ?_
      clear hK K c5 f5 hH
      have J7 := Lib.hid (J6.out.set 5 (.slice sa y sc))
      have o7 : Only [p] wd (wd.setCell ⟨p, 5, none⟩ (.slice sa y sc)) := (Only.refl _ _).setCell (by simp) _
      have O7 := Lib.hid (O6.out.trans o7 (fun k hk => .inl hk))
      generalize wd.setCell ⟨p, 5, none⟩ (.slice sa y sc) = w7 at J7 o7 O7 ⊢
      refine wpAnyB_done (by kernel_rfl) ?_ _
      clear o7 J6 O6
      have c6 : w7.cell? ⟨p, 6, none⟩ = some (.int .i64 first) := J7.out.cell 6
      have c7 : w7.cell? ⟨p, 7, none⟩ = some (.slice ta i tc) := J7.out.cell 7
      go_wp2_with fail
      refine (jnext_raw c6 c7 (by omega)).mono ?_
      rintro e w8 ⟨rfl, hd8⟩
      have J8 := Lib.hid (J7.out.quiet hd8.only)
      have O8 := Lib.hid (O7.out.trans hd8.only (by simp))
      clear hd8 J7 O7 c6 c7
      have c8 : w8.cell? ⟨p, 8, none⟩ = some (.int .i64 0) := J8.out.cell 8
      have f8 := J8.out.free 8
      go_wp2_with fail
      have J9 := J8.out.set 8 (.int .i64 ((first : Int) + (i : Int)))
      have o9 : Only [p] w8 (w8.setCell ⟨p, 8, none⟩ (.int .i64 ((first : Int) + (i : Int)))) := (Only.refl _ _).setCell (by simp) _
      rw [Exit.noGoto_ret]
      go_ret
      refine ⟨rfl, .slice sa y sc, .slice ta i tc, ?_, GS.out, GT.out, ?_⟩
      · have e1 : (first : Int) + (i : Int) = (first : Int) + (recs.length : Int) := by have := HIE.out; omega
        have hst : zs O ++ (flat recs).take m = zs O ++ flat recs := by
          rw [HME.out, List.take_of_length_le (by rw [HL.out]; exact Nat.le_refl _)]
        have hts : offs start (recs.take i) = offs start recs := by rw [HIE.out, List.take_length]
        have hsc : (zs O ++ flat recs).length = O + L := by rw [List.length_append, HL.out, zs_length]
        refine J9.jm (j := ⟨at_, n, first, start, zs O, recs, recs.length, note, 0, false⟩) ?_ hst hts rfl ⟨by rw [show (⟨at_, n, first, start, zs O, recs, recs.length, note, 0, false⟩ : JL).pre = zs O from rfl, zs_length]; exact HO.out.symm, Nat.le_refl _, hf1, HRECS.out, ?_, hn2, hnm, hnote, Nat.zero_le _, hat, ?_⟩ hhere HSAT.out
        · have eb : (⟨at_, n, first, start, zs O, recs, recs.length, note, 0, false⟩ : JL).base = B := by
            show start - start % 470 = B
            rw [HO.out]
            exact HB.out
          simp only [jcells]
          rw [eb, e1]
          rfl
        · show (zs O ++ flat recs).length ≤ n * 470
          rw [hsc]
          exact hroom
        · have := J8.out.dev.hi
          show at_ + 2 + (n : Int) ≤ 4096
          omega
      · exact O8.out.trans o9 (fun k hk => .inl hk)
    have hzE : (z : Int) < (E : Int) := by have := HZ.out; omega
    go_wp2_with fail
    refine hend.mono ?_
    rintro e w5 ⟨rfl, hd5⟩
    have J5 := Lib.hid (JW0.out.quiet hd5.only)
    have O5 := Lib.hid (HO4.out.trans hd5.only (by simp))
    clear hd5 hend c4 c5 JW0 HO4
    have c4 : w5.cell? ⟨p, 4, none⟩ = some (.int .i64 (B : Nat)) := J5.out.cell 4
    have c5 : w5.cell? ⟨p, 5, none⟩ = some (.slice sa y sc) := J5.out.cell 5
    have hend := jend_raw c4 c5 (by omega)
    rw [show B + y = z by have := HZ.out; omega] at hend
    go_wp2_with fail
    refine hend.mono ?_
    rintro e w6 ⟨rfl, hd6⟩
    have J6 := Lib.hid (J5.out.quiet hd6.only)
    have O6 := Lib.hid (O5.out.trans hd6.only (by simp))
    clear hd6 hend c4 c5 J5 O5
    have hk : (z : Int) / 470 = ((z / 470 : Nat) : Int) := by omega
    have hpart := HR.out.part (m := m) (by rw [HL.out]; exact hlt)
    rw [HZ.out, HL.out] at hpart
    have hmo : z % 470 = z - z / 470 * 470 := by omega
    have hkz : z / 470 * 470 ≤ z := by omega
    have hkz2 : z < z / 470 * 470 + 470 := by omega
    generalize hK : z / 470 = k at hk hpart hmo hkz hkz2
    obtain ⟨b, hpc, hbt⟩ := hpart
    have HBT := Lib.hid hbt
    have HPC := Lib.hid hpc
    have HMO := Lib.hid hmo
    clear hbt hpc hmo hK
    go_wp2_with fail
    refine (jread_any (J6.out.rm hn2 hnm hat hhere) HDN.out k (by omega) b HPC.out).mono ?_
    rintro e w7 ⟨x7, c7, rfl, h7, o7⟩
    have J7 := Lib.hid (J6.out.quiet o7)
    have H7 := Lib.hid h7
    have O7 := Lib.hid (O6.out.trans o7 (by simp))
    have HB470 := Lib.hid HPC.out.2
    clear h7 o7 J6 O6
    have hb7 := H7.out.bytes
    have hf7 := H7.out.fit _ _ _ rfl
    rw [← HB470.out] at hb7
    have ht : (E : Int) - (k : Int) * 470 = ((E - k * 470 : Nat) : Int) := by omega
    have het : E - k * 470 = start + L - k * 470 := by omega
    rw [← het] at HBT
    have hoE : z - k * 470 < E - k * 470 := by omega
    clear het
    generalize E - k * 470 = t at ht HBT hoE
    have hmin : (if (t : Int) < 470 then (t : Int) else (470 : Int)) = ((min 470 t : Nat) : Int) := by
      split <;> omega
    have hmm : min 470 t ≤ b.length := by rw [HB470.out]; exact Nat.min_le_left _ _
    have hmm2 : min 470 t ≤ 470 := Nat.min_le_left _ _
    have hom : z - k * 470 ≤ min 470 t := by omega
    obtain ⟨bb, hrun, hbb⟩ := slice_to hb7 (by rw [HB470.out]; exact hf7.1) (min 470 t) hmm .i64
    rw [HB470.out] at hrun
    have hbl : (b.take (min 470 t)).length = min 470 t := by rw [List.length_take]; omega
    generalize min 470 t = mm at hmin hmm hmm2 hom hrun hbb hbl HBT
    have BB := Lib.hid hbb
    have HBL := Lib.hid hbl
    have hwt : IntKind.i64.wrap ((k : Int) * 470) = (k : Int) * 470 := by rw [IntKind.wrap_i64]; omega
    have hc7 : (470 : Int) ≤ (c7 : Int) := by omega
    clear hbb hbl hb7 hmm
    go_wp2_with fail
    refine (jis_nil .nilIface w7).mono ?_
    rintro e w8 ⟨rfl, rfl⟩
    go_wp2_with fail
    clear hrun hmin hwt ht hk
    have hmo2 : z % 470 = z - k * 470 := HMO.out
    rw [hmo2] at HBT
    have hy470 : y % 470 = z - k * 470 := by have := HO.out; have := HZ.out; omega
    have hyt : (y : Int).tmod 470 = ((z - k * 470 : Nat) : Int) := by rw [Int.tmod_eq_emod_of_nonneg (by omega)]; omega
    have hye : (y : Int) % 470 = ((z - k * 470 : Nat) : Int) := by omega
    generalize z - k * 470 = o at HBT hy470 hyt hye hom hoE
    have hm2 : m < min L ((k + 1) * 470 - start) := by have := HZ.out; omega
    have hm2L : min L ((k + 1) * 470 - start) ≤ L := Nat.min_le_left _ _
    generalize min L ((k + 1) * 470 - start) = m2 at HBT hm2 hm2L
    have hbm : (b.take mm).length = mm := HBL.out
    have hfb := H7.out.fit _ _ _ rfl
    have hb3 := BB.out
    have hmc : mm ≤ c7 := by omega
    have hb3' : Bytes w7 (.slice bb (b.take mm).length c7) (b.take mm) := by rw [hbm]; exact hb3
    obtain ⟨b3, hrun3, hbb3⟩ := slice_from hb3' (by rw [hbm]; exact hmc) o (by rw [hbm]; exact hom) .i64
    have hdl : ((b.take mm).drop o).length = mm - o := by rw [List.length_drop, hbm]
    rw [HBT.out] at hbb3 hdl
    rw [hbm] at hrun3 hbb3
    have hdl2 : (((flat recs).take m2).drop m).length = m2 - m := by
      rw [List.length_drop, List.length_take, HL.out]
      omega
    have hmo3 : mm - o = m2 - m := by omega
    rw [hmo3] at hrun3 hbb3
    generalize c7 - o = c3 at hrun3 hbb3
    have BB3 := Lib.hid hbb3
    have HDL2 := Lib.hid hdl2
    have hoI : (o : Int) ≤ (mm : Int) := by omega
    clear hmo2 hy470 hbm hfb hb3 hb3' hbb3 hdl hdl2 hmo3 BB HBT hoE
    have o8 : Only [] w7 w7.drew := (Only.refl [] w7).drew
    have J8 := Lib.hid (J7.out.quiet o8)
    have O8 := Lib.hid (O7.out.trans o8 (by simp))
    have B8 := Lib.hid (BB3.out.kept o8 (clean_nil _))
    clear o8 J7 O7 BB3 H7
    refine wp_region_B (S := fun w' => w'.cell? ⟨p, 5, none⟩ = some (.slice sa y sc)) [0, 1, 2, 3, 4, 5, 6, 7, 8, 9, 10, 11, 12, 13, 14, 15] (by kernel_rfl) (J8.out.cell 5) (fun hH => ?_)
    generalize w7.drew = wd at hH J8 O8 B8 ⊢
    refine takeB_list (i := 0) (v := ?_) rfl (by kernel_rfl) (by kernel_rfl) (by kernel_rfl) (by kernel_rfl) (fun _ _ _ h => h) (Or.inl ⟨by rfl, ?_⟩) hH ?_
    rotate_left
    · ((intro w hSw; (try dsimp only at hSw); go_simp); try with_reducible rfl)
    simp only [Act.put, List.setIfInBounds_toArray, List.set_cons_zero, List.set_cons_succ]
    refine takeB_list (i := 1) (v := ?_) rfl (by kernel_rfl) (by kernel_rfl) (by kernel_rfl) (by kernel_rfl) (fun _ _ _ h => h) (Or.inl ⟨by rfl, ?_⟩) hH ?_
    rotate_left
    · ((intro w hSw; (try dsimp only at hSw); go_simp); try with_reducible rfl)
    simp only [Act.put, List.setIfInBounds_toArray, List.set_cons_zero, List.set_cons_succ]
    refine takeB_list (i := 2) (v := ?_) rfl (by kernel_rfl) (by kernel_rfl) (by kernel_rfl) (by kernel_rfl) (fun _ _ _ h => h) (Or.inl ⟨by rfl, ?_⟩) hH ?_
    rotate_left
    · ((intro w hSw; (try dsimp only at hSw); go_simp); try with_reducible rfl)
    simp only [Act.put, List.setIfInBounds_toArray, List.set_cons_zero, List.set_cons_succ]
    refine takeB_list (i := 3) (v := ?_) rfl (by kernel_rfl) (by kernel_rfl) (by kernel_rfl) (by kernel_rfl) (fun _ _ _ h => h) (Or.inl ⟨by rfl, ?_⟩) hH ?_
    rotate_left
    · ((intro w hSw; (try dsimp only at hSw); go_simp); try with_reducible rfl)
    simp only [Act.put, List.setIfInBounds_toArray, List.set_cons_zero, List.set_cons_succ]
    refine takeB_list (i := 4) (v := ?_) rfl (by kernel_rfl) (by kernel_rfl) (by kernel_rfl) (by kernel_rfl) (fun _ _ _ h => h) (Or.inl ⟨by rfl, ?_⟩) hH ?_
    rotate_left
    · ((intro w hSw; (try dsimp only at hSw); go_simp); try with_reducible rfl)
    simp only [Act.put, List.setIfInBounds_toArray, List.set_cons_zero, List.set_cons_succ]
    refine takeB_list (i := 5) (v := ?_) rfl (by kernel_rfl) (by kernel_rfl) (by kernel_rfl) (by kernel_rfl) (fun _ _ _ h => h) (Or.inl ⟨by rfl, ?_⟩) hH ?_
    rotate_left
    · ((intro w hSw; (try dsimp only at hSw); go_simp); try with_reducible rfl)
    simp only [Act.put, List.setIfInBounds_toArray, List.set_cons_zero, List.set_cons_succ]
    refine takeB_list (i := 6) (v := ?_) rfl (by kernel_rfl) (by kernel_rfl) (by kernel_rfl) (by kernel_rfl) (fun _ _ _ h => h) (Or.inl ⟨by rfl, ?_⟩) hH ?_
    rotate_left
    · ((intro w hSw; (try dsimp only at hSw); go_simp); try with_reducible rfl)
    simp only [Act.put, List.setIfInBounds_toArray, List.set_cons_zero, List.set_cons_succ]
    refine takeB_list (i := 7) (v := ?_) rfl (by kernel_rfl) (by kernel_rfl) (by kernel_rfl) (by kernel_rfl) (fun _ _ _ h => h) (Or.inl ⟨by rfl, ?_⟩) hH ?_
    rotate_left
    · ((intro w hSw; (try dsimp only at hSw); go_simp); try with_reducible rfl)
    simp only [Act.put, List.setIfInBounds_toArray, List.set_cons_zero, List.set_cons_succ]
    refine takeB_list (i := 8) (v := ?_) rfl (by kernel_rfl) (by kernel_rfl) (by kernel_rfl) (by kernel_rfl) (fun _ _ _ h => h) (Or.inl ⟨by rfl, ?_⟩) hH ?_
    rotate_left
    · ((intro w hSw; (try dsimp only at hSw); go_simp); try with_reducible rfl)
    simp only [Act.put, List.setIfInBounds_toArray, List.set_cons_zero, List.set_cons_succ]
    refine takeB_list (i := 9) (v := ?_) rfl (by kernel_rfl) (by kernel_rfl) (by kernel_rfl) (by kernel_rfl) (fun _ _ _ h => h) (Or.inl ⟨by rfl, ?_⟩) hH ?_
    rotate_left
    · ((intro w hSw; (try dsimp only at hSw); go_simp); try with_reducible rfl)
    simp only [Act.put, List.setIfInBounds_toArray, List.set_cons_zero, List.set_cons_succ]
    refine takeB_list (i := 10) (v := ?_) rfl (by kernel_rfl) (by kernel_rfl) (by kernel_rfl) (by kernel_rfl) (fun _ _ _ h => h) (Or.inl ⟨by rfl, ?_⟩) hH ?_
    rotate_left
    · ((intro w hSw; (try dsimp only at hSw); go_simp); try with_reducible rfl)
    simp only [Act.put, List.setIfInBounds_toArray, List.set_cons_zero, List.set_cons_succ]
    refine takeB_list (i := 11) (v := ?_) rfl (by kernel_rfl) (by kernel_rfl) (by kernel_rfl) (by kernel_rfl) (fun _ _ _ h => h) (Or.inl ⟨by rfl, ?_⟩) hH ?_
    rotate_left
    · ((intro w hSw; (try dsimp only at hSw); go_simp); try with_reducible rfl)
    simp only [Act.put, List.setIfInBounds_toArray, List.set_cons_zero, List.set_cons_succ]
    refine takeB_list (i := 12) (v := ?_) rfl (by kernel_rfl) (by kernel_rfl) (by kernel_rfl) (by kernel_rfl) (fun _ _ _ h => h) (Or.inl ⟨by rfl, ?_⟩) hH ?_
    rotate_left
    · ((intro w hSw; (try dsimp only at hSw); go_simp); try with_reducible rfl)
    simp only [Act.put, List.setIfInBounds_toArray, List.set_cons_zero, List.set_cons_succ]
    clear hrun3 hyt hye
    refine readyB_in (i := 13) (by kernel_rfl) rfl (fun K hK => ?_)
    have hstr := J8.out.str
    have hslen : (zs O ++ (flat recs).take m).length = O + m := by
      rw [List.length_append, zs_length, List.length_take, HL.out]
      omega
    refine step_append_any (by rfl) (.tmp 62) (.tmp 70) (by rfl) 0 _ (zs O ++ (flat recs).take m) (by rfl) hstr _ (((flat recs).take m2).drop m) (by rfl) B8.out (O + m2) (by rw [hslen, HDL2.out]; omega) (zs O ++ (flat recs).take m2) (by rw [List.append_assoc, take_more (by omega)]) (by omega) (Nat.zero_le _) (fun a9 k9 w9 h9 x9 => ?_)
    have J9 := Lib.hid (J8.out.setS x9 h9)
    have c5 : w9.cell? ⟨p, 5, none⟩ = some (.slice sa y sc) := J9.out.cell 5
    have Zd := O8.out.size
    have GS9 := Lib.hid (show ∀ x, (Value.slice a9 (O + m2) k9).ownBlock = some x → w.heap.size ≤ x from fun x hx => by
      rcases x9.src x hx with e | e
      · exact GS.out x e
      · exact Nat.le_trans Zd e)
    have O9 := Lib.hid (O8.out.trans x9.only (fun x hx => .inr (GS.out x (by simpa using hx))))
    refine hK.out _ _ c5 (fun hH => ?_)
    clear hK K h9 x9 Zd hstr hslen J8 O8 B8 c5
    refine takeB_list (i := 14) (v := ?_) rfl (by kernel_rfl) (by kernel_rfl) (by kernel_rfl) (by kernel_rfl) (fun _ _ _ h => h) (Or.inl ⟨by rfl, ?_⟩) hH ?_
    rotate_left
    · ((intro w hSw; (try dsimp only at hSw); go_simp); try with_reducible rfl)
    simp only [Act.put, List.setIfInBounds_toArray, List.set_cons_zero, List.set_cons_succ]
    refine takeB_list (i := 15) (v := ?_) rfl (by kernel_rfl) (by kernel_rfl) (by kernel_rfl) (by kernel_rfl) (fun _ _ _ h => h) (Or.inl ⟨by rfl, ?_⟩) hH ?_
    rotate_left
    · ((intro w hSw; (try dsimp only at hSw); go_simp); try with_reducible rfl)
    simp only [Act.put, List.setIfInBounds_toArray, List.set_cons_zero, List.set_cons_succ]
    have c5 : w9.cell? ⟨p, 5, none⟩ = some (.slice sa y sc) := J9.out.cell 5
    have f5 := J9.out.free 5
    refine readyB_out (i := 16) (by kernel_rfl) (by kernel_rfl) rfl (fun K hK => ?_)
    go_simp
    refine hK.out _ _ ?_
    clear hK K c5 f5 hH
    have J10 := Lib.hid (J9.out.set 5 (.slice a9 (O + m2) k9))
    have o10 : Only [p] w9 (w9.setCell ⟨p, 5, none⟩ (.slice a9 (O + m2) k9)) := (Only.refl _ _).setCell (by simp) _
    have O10 := Lib.hid (O9.out.trans o10 (fun k hk => .inl hk))
    generalize w9.setCell ⟨p, 5, none⟩ (.slice a9 (O + m2) k9) = w10 at J10 o10 O10 ⊢
    refine wpAnyB_done (by kernel_rfl) ?_ _
    have L10 := Lib.hid (show LRel w w10 p q a at_ n first start B O recs note vn vr d s i m2 from ⟨⟨a9, k9, ta, tc, J10.out, GS9.out, GT.out⟩, O10.out, by rw [HL.out]; omega⟩)
    clear o10 J9 O9 J10 O10 GS GS9 GT
    go_wp2_with fail
    go_loopg [7] (recs.length - i) (fun gk2 s7 wr2 => ∃ i2 : Nat, s7 = .int .i64 ((start + pos recs i2 : Nat) : Int) ∧ i2 ≤ recs.length ∧ pos recs i2 ≤ m2 ∧ i2 + gk2 = recs.length ∧ LRel w wr2 p q a at_ n first start B O recs note vn vr d s i2 m2)
    case atStart => exact ⟨i, by rw [HNX.out], hil, by omega, by omega, L10.out⟩
    case round =>
      clear L10
      obtain ⟨i2, rfl, hil2, hpi2, hig2, hl2⟩ := hrel
      obtain ⟨⟨sb, sd, tb, td, jw2, gs2, gt2⟩, ho2, _⟩ := hl2
      obtain ⟨y2, hy2⟩ : ∃ y2, O + m2 = y2 := ⟨_, rfl⟩
      rw [hy2] at jw2 gs2
      have HY2 := Lib.hid hy2
      generalize hnx2 : start + pos recs i2 = nx2
      have HNX2 := Lib.hid hnx2
      have hidx : (nx2 : Int) - (B : Int) = ((O + pos recs i2 : Nat) : Int) := by omega
      have hoy : O + pos recs i2 ≤ y2 := by omega
      have hy2l : y2 ≤ 962560 := by omega
      have hnxl : nx2 ≤ 1152921504606846976 := by omega
      have JW2 := Lib.hid jw2
      have GS2 := Lib.hid gs2
      have GT2 := Lib.hid gt2
      have HO5 := Lib.hid ho2
      have hstr := jw2.str
      have hsl2 : (zs O ++ (flat recs).take m2).length = y2 := by
        rw [List.length_append, zs_length, List.length_take, HL.out]
        omega
      have hfit := hstr.fit
      have hbytes : Bytes wr (.slice sb (zs O ++ (flat recs).take m2).length sd) (zs O ++ (flat recs).take m2) := by rw [hsl2]; exact hstr.bytes
      obtain ⟨b4, hrun4, hbb4⟩ := slice_from hbytes (by rw [hsl2]; exact (hfit _ _ _ rfl).1) (O + pos recs i2) (by rw [hsl2]; exact hoy) .i64
      have hdr : (zs O ++ (flat recs).take m2).drop (O + pos recs i2) = ((flat recs).take m2).drop (pos recs i2) := by
        rw [← List.drop_drop]
        congr 1
        rw [List.drop_append, zs_length]
        simp [zs]
      rw [hdr] at hbb4
      rw [hsl2] at hrun4 hbb4
      have hlen4 : (((flat recs).take m2).drop (pos recs i2)).length = y2 - (O + pos recs i2) := by
        rw [← hdr, List.length_drop, hsl2]
      rw [← hlen4] at hrun4 hbb4
      have hlen5 : (((flat recs).take m2).drop (pos recs i2)).length ≤ 1000000 := by omega
      have hwh := wholeN_at hil2 HRECS.out hpi2 (by rw [HL.out]; omega)
      generalize O + pos recs i2 = idx at hidx hrun4 hbb4 hoy hlen4
      generalize hT4 : ((flat recs).take m2).drop (pos recs i2) = T4 at hrun4 hbb4 hlen5 hwh
      have BB4 := Lib.hid hbb4
      have hwi : IntKind.i64.wrap ((nx2 : Int) - (B : Int)) = (idx : Int) := by
        rw [IntKind.wrap_i64]
        omega
      have hoyI : (idx : Int) ≤ (y2 : Int) := by omega
      generalize sd - idx = cd at hrun4 BB4
      have HWH := Lib.hid hwh
      clear jw2 gs2 gt2 ho2 hy2 hnx2 hstr hsl2 hfit hbytes hdr hlen4 hbb4 hT4 hwh hidx
      go_wp2_with fail
      have o5 : Only [] wr wr.drew := (Only.refl [] wr).drew
      have J5 := Lib.hid (JW2.out.quiet o5)
      have B5 := Lib.hid (BB4.out.kept o5 (clean_nil _))
      have O5 := Lib.hid (HO5.out.trans o5 (by simp))
      clear o5 JW2 BB4 HO5
      refine wp_region_held_drew (S := fun w' => w'.cell? ⟨p, 4, none⟩ = some (.int .i64 (B : Nat)) ∧ w'.cell? ⟨p, 5, none⟩ = some (.slice sb y2 sd)) (by kernel_rfl) ⟨J5.out.cell 4, J5.out.cell 5⟩ (fun hH => ?_)
      generalize wr.drew = wd at hH J5 B5 O5 ⊢
      refine take_list (i := 0) (v := ?_) rfl (by kernel_rfl) (by kernel_rfl) (by kernel_rfl) (fun _ _ _ h => h) (Or.inl ⟨by rfl, ?_⟩) hH ?_
      rotate_left
      · ((intro w hSw; (try dsimp only at hSw); go_simp); try with_reducible rfl)
      simp only [Act.put, List.setIfInBounds_toArray, List.set_cons_zero, List.set_cons_succ]
      refine take_list (i := 1) (v := ?_) rfl (by kernel_rfl) (by kernel_rfl) (by kernel_rfl) (fun _ _ _ h => h) (Or.inl ⟨by rfl, ?_⟩) hH ?_
      rotate_left
      · ((intro w hSw; (try dsimp only at hSw); go_simp); try with_reducible rfl)
      simp only [Act.put, List.setIfInBounds_toArray, List.set_cons_zero, List.set_cons_succ]
      refine take_list (i := 2) (v := ?_) rfl (by kernel_rfl) (by kernel_rfl) (by kernel_rfl) (fun _ _ _ h => h) (Or.inl ⟨by rfl, ?_⟩) hH ?_
      rotate_left
      · ((intro w hSw; (try dsimp only at hSw); go_simp); try with_reducible rfl)
      simp only [Act.put, List.setIfInBounds_toArray, List.set_cons_zero, List.set_cons_succ]
      refine take_list (i := 3) (v := ?_) rfl (by kernel_rfl) (by kernel_rfl) (by kernel_rfl) (fun _ _ _ h => h) (Or.inl ⟨by rfl, ?_⟩) hH ?_
      rotate_left
      · ((intro w hSw; (try dsimp only at hSw); go_simp); try with_reducible rfl)
      simp only [Act.put, List.setIfInBounds_toArray, List.set_cons_zero, List.set_cons_succ]
      refine take_list (i := 4) (v := ?_) rfl (by kernel_rfl) (by kernel_rfl) (by kernel_rfl) (fun _ _ _ h => h) (Or.inl ⟨by rfl, ?_⟩) hH ?_
      rotate_left
      · ((intro w hSw; (try dsimp only at hSw); go_simp); try with_reducible rfl)
      simp only [Act.put, List.setIfInBounds_toArray, List.set_cons_zero, List.set_cons_succ]
      refine take_list (i := 5) (v := ?_) rfl (by kernel_rfl) (by kernel_rfl) (by kernel_rfl) (fun _ _ _ h => h) (Or.inl ⟨by rfl, ?_⟩) hH ?_
      rotate_left
      · ((intro w hSw; (try dsimp only at hSw); go_simp); try with_reducible rfl)
      simp only [Act.put, List.setIfInBounds_toArray, List.set_cons_zero, List.set_cons_succ]
      refine take_list (i := 6) (v := ?_) rfl (by kernel_rfl) (by kernel_rfl) (by kernel_rfl) (fun _ _ _ h => h) (Or.inl ⟨by rfl, ?_⟩) hH ?_
      rotate_left
      · ((intro w hSw; (try dsimp only at hSw); go_simp); try with_reducible rfl)
      simp only [Act.put, List.setIfInBounds_toArray, List.set_cons_zero, List.set_cons_succ]
      refine take_list (i := 7) (v := ?_) rfl (by kernel_rfl) (by kernel_rfl) (by kernel_rfl) (fun _ _ _ h => h) (Or.inl ⟨by rfl, ?_⟩) hH ?_
      rotate_left
      · ((intro w hSw; (try dsimp only at hSw); go_simp); try with_reducible rfl)
      simp only [Act.put, List.setIfInBounds_toArray, List.set_cons_zero, List.set_cons_succ]
      refine take_list (i := 8) (v := ?_) rfl (by kernel_rfl) (by kernel_rfl) (by kernel_rfl) (fun _ _ _ h => h) (Or.inl ⟨by rfl, ?_⟩) hH ?_
      rotate_left
      · ((intro w hSw; (try dsimp only at hSw); go_simp); try with_reducible rfl)
      simp only [Act.put, List.setIfInBounds_toArray, List.set_cons_zero, List.set_cons_succ]
      refine take_list (i := 9) (v := ?_) rfl (by kernel_rfl) (by kernel_rfl) (by kernel_rfl) (fun _ _ _ h => h) (Or.inl ⟨by rfl, ?_⟩) hH ?_
      rotate_left
      · ((intro w hSw; (try dsimp only at hSw); go_simp); try with_reducible rfl)
      simp only [Act.put, List.setIfInBounds_toArray, List.set_cons_zero, List.set_cons_succ]
      refine take_list (i := 10) (v := ?_) rfl (by kernel_rfl) (by kernel_rfl) (by kernel_rfl) (fun _ _ _ h => h) (Or.inl ⟨by rfl, ?_⟩) hH ?_
      rotate_left
      · ((intro w hSw; (try dsimp only at hSw); go_simp); try with_reducible rfl)
      simp only [Act.put, List.setIfInBounds_toArray, List.set_cons_zero, List.set_cons_succ]
      clear hrun4 hwi
      refine wpAnyH_ready (rs := [11]) (by kernel_rfl) (by simp) ?_
      refine ready_list rfl (fun K hK => ?_)
      go_simp
      refine (jwhole_any _ T4 wd B5.out hlen5).mono ?_
      rintro e w6 ⟨rfl, hd6⟩
      have J6 := Lib.hid (J5.out.quiet hd6.only)
      have O6 := Lib.hid (O5.out.trans hd6.only (by simp))
      refine hK.out _ _ ⟨J6.out.cell 4, J6.out.cell 5⟩ (fun hH => ?_)
      clear hK K hd6 J5 O5 B5
      refine take_list (i := 12) (v := ?_) rfl (by kernel_rfl) (by kernel_rfl) (by kernel_rfl) (fun _ _ _ h => h) (Or.inl ⟨by rfl, ?_⟩) hH ?_
      rotate_left
      · ((intro w hSw; (try dsimp only at hSw); go_simp); try with_reducible rfl)
      simp only [Act.put, List.setIfInBounds_toArray, List.set_cons_zero, List.set_cons_succ]
      refine wpAnyH_done (by kernel_rfl) ?_ _
      clear hH
      rcases HWH.out with ⟨h0, hdone2⟩ | ⟨r, hri, h0, hp2⟩
      · rw [h0]
        have D2 := Lib.hid hdone2
        clear h0 hdone2
        go_wp2_with fail
        go_roundg (L - m2)
        case measure => omega
        case rel => exact ⟨i2, m2, by rw [HNX2.out], by omega, D2.out, ⟨⟨sb, sd, tb, td, by rw [HY2.out]; exact J6.out, by rw [HY2.out]; exact GS2.out, GT2.out⟩, O6.out, by rw [HL.out]; omega⟩⟩
      · rw [h0]
        have hlt2 : i2 < recs.length := (List.getElem?_eq_some_iff.1 hri).1
        have hps := pos_succ hri
        have hrl := (HRECS.out r (List.mem_of_getElem? hri)).2
        have hts : offs start (recs.take i2) ++ [(nx2 : Int)] = offs start (recs.take (i2 + 1)) := by
          rw [List.take_add_one, hri]
          show _ = offs start (recs.take i2 ++ [r])
          rw [offs_snoc]
          congr 2
          rw [← HNX2.out]
          rfl
        have htl : (offs start (recs.take i2)).length + 1 = i2 + 1 := by rw [offs_length, List.length_take]; omega
        have hcnt : i2 ≤ 962560 := by
          have := flat_count recs
          rw [HL.out] at this
          omega
        have HTS := Lib.hid hts
        have HTL := Lib.hid htl
        have HPS := Lib.hid hps
        have c7 : w6.cell? ⟨p, 7, none⟩ = some (.slice tb i2 td) := J6.out.cell 7
        have hz2 : ((r.length + 2 : Nat) : Int) = (r.length : Int) + 2 := by omega
        rw [hz2]
        clear h0 hts htl hps hz2 hri
        go_wp2_with (
          refine wpList_append_ints rfl (.tmp 92) (.tmp 94) rfl 0 _ (offs start (recs.take i2)) (by rfl) (J6.out.quiet ((Only.refl [] w6).alloc _)).sts _ [(nx2 : Int)] (by rfl) (ints_one w6 (nx2 : Int) (WalkArith.wf_i64 (by omega))) (i2 + 1) HTL.out (offs start (recs.take (i2 + 1))) HTS.out (by omega) (Nat.zero_le _) ?_
          intro a8 k8 w8 h8 x8
          have x8' := Ext.before ((Only.refl [] w6).alloc _) x8
          have J8 := Lib.hid (J6.out.setT x8' h8)
          have c7 : w8.cell? ⟨p, 7, none⟩ = some (.slice tb i2 td) := J8.out.cell 7
          have f7 := J8.out.free 7
          have Z6 := O6.out.size
          have GT8 := Lib.hid (show ∀ x, (Value.slice a8 (i2 + 1) k8).ownBlock = some x → w.heap.size ≤ x from fun x hx => by
            rcases x8'.src x hx with e | e
            · exact GT2.out x e
            · exact Nat.le_trans Z6 e)
          have O8 := Lib.hid (O6.out.trans x8'.only (fun x hx => .inr (GT2.out x (by simpa using hx))))
          clear x8 x8' h8 Z6)
        have J9 := J8.out.set 7 (.slice a8 (i2 + 1) k8)
        have o9 : Only [p] w8 (w8.setCell ⟨p, 7, none⟩ (.slice a8 (i2 + 1) k8)) := (Only.refl _ _).setCell (by simp) _
        go_roundg (recs.length - (i2 + 1))
        case measure => omega
        case rel => exact ⟨i2 + 1, by have := HPS.out; have := HNX2.out; congr 1; omega, hlt2, hp2, by omega, ⟨⟨sb, sd, a8, k8, by rw [HY2.out]; exact J9, by rw [HY2.out]; exact GS2.out, GT8.out⟩, O8.out.trans o9 (fun k hk => .inl hk), by rw [HL.out]; omega⟩⟩
end Go.Proofs.Ytmjnbpcjpjefeaa
