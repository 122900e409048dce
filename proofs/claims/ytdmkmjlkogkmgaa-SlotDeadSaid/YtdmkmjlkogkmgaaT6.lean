/- Slots on a device that the caller made itself; the chapter's example runs as it says. -/
import Derived.Test.YtdmkmjlkogkmgaaT5
namespace Go.Proofs.Ytdmkmjlkogkmgaa
open Go.RowKit Go.Maps
set_option linter.unusedSimpArgs false
set_option linter.unusedVariables false

/-- Since w0 a device and slots on it were made, and nothing that was there has turned. -/
structure SSt (w0 w : World) (a : DA) (d : Disk) (p : Nat) (v : Value) (s : SL) : Prop where
  st : St w0 w a d
  slot : Slot w p a v s
  newp : w0.heap.size ≤ p
section
variable {w0 w w' : World} {a : DA} {d d' : Disk} {p : Nat} {v v' : Value} {s s' : SL}
theorem SSt.quiet (h : SSt w0 w a d p v s) (ho : Only [] w w') : SSt w0 w' a d p v s := ⟨h.st.quiet ho, h.slot.quiet ho, h.newp⟩
theorem SSt.dev (h : SSt w0 w a d p v s) (ho : Only a.bl w w') (hd : Dev w' a d') : SSt w0 w' a d' p v s := ⟨h.st.step ho hd, h.slot.dev h.st.dev ho, h.newp⟩
theorem format_st {at_ : Int} {rv : Value} {r : Sec} (h : St w0 w a d) (hr : Bytes w rv r) (hl : r.length ≤ 480) (hd : d.Calm) (hf : fitB at_ d.size = true) (hw : w0.heap.size ≤ w.heap.size) :
    Calls Try.prog 13 #[.pointer (some ⟨a.p, 0, none⟩), .int .i64 at_, rv] w fun e w' => ∃ p v, e = .returned (.tuple #[.pointer (some ⟨p, 0, none⟩), .nilIface]) ∧ SSt w0 w' a (d.fm at_ r) p v ⟨at_, 1, r, false⟩ := by
  refine (Format_any at_ rv r h.dev hr (by omega)).mono ?_
  rintro e w' ⟨hd', ho, hy, _⟩
  obtain ⟨p, v, rfl, hs, hp, _⟩ := hy (fm_calm hd hf hl).1
  exact ⟨p, v, rfl, h.step ho hd', hs, Nat.le_trans hw hp⟩
theorem save_st {rv : Value} {r : Sec} (h : SSt w0 w a d p v s) (hr : Bytes w rv r) (hf : fitB s.at_ d.size = true) (hl : r.length ≤ 4611686018427387904) :
    Calls Try.prog 14 #[.pointer (some ⟨p, 0, none⟩), rv] w fun e w' => e = .returned (errV (s.scode d r)) ∧ ∃ v', SSt w0 w' a (s.sdisk d r) p v' (s.save d r) := by
  refine (save_any rv r h.slot h.st.dev hr hf hl).mono ?_
  rintro e w' ⟨rfl, hd', ho, v', hs, _⟩
  refine ⟨rfl, v', ⟨hd', h.st.only.trans ho (fun k hk => ?_), h.st.new⟩, hs, h.newp⟩
  simp only [SA, List.mem_cons] at hk
  rcases hk with rfl | hk
  · exact .inr h.newp
  · exact .inr (h.st.new k hk)
/-- A Save with the power there. -/
theorem save_calm {rv : Value} {r : Sec} (h : SSt w0 w a d p v s) (hr : Bytes w rv r) (hl : r.length ≤ 480) (hd : d.Calm) (hh : Holds d s) (hn : s.n < 4611686018427387904) (hc : s.cut = false) :
    Calls Try.prog 14 #[.pointer (some ⟨p, 0, none⟩), rv] w fun e w' => e = .returned .nilIface ∧ ∃ v' d', SSt w0 w' a d' p v' (s.put r) ∧ d'.Calm ∧ Holds d' (s.put r) := by
  have hlo := hh.lo
  obtain ⟨e1, e2, e3, e4⟩ := SL.save_calm (r := r) hd hh.place (by omega) hn hc hl
  refine (save_st h hr hh.fit (by omega)).mono ?_
  rintro e w' ⟨rfl, v', h'⟩
  rw [e1, e2, e3] at *
  exact ⟨rfl, v', _, h', hd.ly hh.place (SL.sec_len (by omega) (by omega) hl), hh.yes hn hl e4⟩
/-- An Open where a row is in force. -/
theorem open_holds {s : SL} (h : St w0 w a d) (hd : d.met.down = false) (hh : Holds d s) (hw : w0.heap.size ≤ w.heap.size) :
    Calls Try.prog 17 #[.pointer (some ⟨a.p, 0, none⟩), .int .i64 s.at_] w fun e w' => ∃ p v, e = .returned (.tuple #[.pointer (some ⟨p, 0, none⟩), .nilIface]) ∧ SSt w0 w' a d p v ⟨s.at_, s.n, s.row, false⟩ ∧ Only [] w w' := by
  have hlo := hh.lo
  have hc : d.ocode s.at_ = 0 := by
    have h0 : ¬ s.n = 0 := by omega
    simp [Disk.ocode, hh.fit, hd, hh.op, h0]
  refine (Open_any s.at_ h.dev).mono ?_
  rintro e w' ⟨⟨hd', ho, hy, _⟩, hq⟩
  obtain ⟨p, v, rfl, hs, hp, _⟩ := hy hc
  rw [hh.op] at hs
  exact ⟨p, v, rfl, ⟨h.quiet hq, hs, Nat.le_trans hw hp⟩, hq⟩
end

theorem lit1 (w : World) (c : UInt8) (x : Int) (hx : x = c.toNat) (fr : Nat × Nat) : Bytes (w.alloc (.cells #[.int .u8 x] 5 fr)) (.slice (some ⟨w.heap.size, 0, none⟩) 1 1) [c] :=
  bytes_made w [c] (by rw [hx]; rfl) 1 rfl rfl

set_option maxRecDepth 100000 in
set_option maxHeartbeats 1600000 in
theorem alive3_any (w : World) : Calls Try.prog 8 #[] w fun e w' => e = .returned (.bool true) ∧ Only [] w w' := by
  go_enter Try.func8, Try.ntmps8
  have kc := conv_lit
  go_wp2_with fail
  refine (new_st 4 w (by omega) (by omega)).mono ?_
  rintro e w1 ⟨a, rfl, h1⟩
  go_wp2_with fail
  have q1 : Only [] w1 (w1.alloc (.cells #[.int .u8 97] 5 (1, 2))) := (Only.refl [] w1).alloc _
  refine (format_st (h1.quiet q1) (lit1 w1 97 97 rfl (1, 2)) (by decide) (Disk.Calm.fresh 4) rfl (Nat.le_trans h1.only.size q1.size)).mono ?_
  rintro e w2 ⟨p, v2, rfl, s2⟩
  obtain ⟨c0, m2, g2⟩ := fm_calm (at_ := 0) (r := [97]) (Disk.Calm.fresh 4) rfl (by decide)
  have S2 := Lib.hid s2
  have M2 := Lib.hid m2
  have G2 := Lib.hid g2
  clear h1 q1 s2 m2 g2 c0
  generalize (Disk.fresh 4).fm 0 [97] = d2 at S2 M2 G2
  go_wp2_with fail
  have q2 : Only [] w2 (w2.alloc (.cells #[.int .u8 98] 5 (1, 2))) := (Only.refl [] w2).alloc _
  refine (save_calm (S2.out.quiet q2) (lit1 w2 98 98 rfl (1, 2)) (by decide) M2.out G2.out (by decide) rfl).mono ?_
  rintro e w3 ⟨rfl, v3, d3, s3, m3, g3⟩
  have S3 := Lib.hid s3
  have M3 := Lib.hid m3
  have G3 := Lib.hid g3
  clear S2 M2 G2 s3 m3 g3 q2
  go_wp2_with fail
  have q3 : Only [] w3 (w3.alloc (.cells #[.int .u8 99] 5 (1, 2))) := (Only.refl [] w3).alloc _
  refine (save_calm (S3.out.quiet q3) (lit1 w3 99 99 rfl (1, 2)) (by decide) M3.out G3.out (by decide) rfl).mono ?_
  rintro e w4 ⟨rfl, v4, d4, s4, m4, g4⟩
  have S4 := Lib.hid s4
  have M4 := Lib.hid m4
  have G4 := Lib.hid g4
  clear S3 M3 G3 s4 m4 g4 q3 kc
  go_wp2_with fail
  refine (open_holds S4.out.st M4.out.down G4.out S4.out.st.only.size).mono ?_
  rintro e w5 ⟨p5, v5, rfl, s5, o5⟩
  have S5 := Lib.hid s5
  have S45 := Lib.hid (S4.out.quiet o5)
  clear S4 M4 G4 s5 o5
  go_wp2_with fail
  refine (number_slot _ S5.out.slot 3 rfl).mono ?_
  rintro e w6 ⟨rfl, rfl⟩
  go_wp2_with fail
  refine (row_slot _ S5.out.slot [99] rfl).mono ?_
  rintro e w6 ⟨b6, k6, rfl, h6, o6⟩
  have e6 := str_bytes (S := ⟨#[99]⟩) h6.bytes rfl
  have S6 := Lib.hid (S45.out.quiet o6)
  clear S5 S45 h6 o6
  simp only [List.length_cons, List.length_nil, Nat.zero_add] at e6 ⊢
  go_wp2_with fail
  clear e6
  refine (row_slot _ S6.out.slot [99] rfl).mono ?_
  rintro e w7 ⟨b7, k7, rfl, h7, o7⟩
  have e7 := str_bytes (S := ⟨#[99]⟩) h7.bytes rfl
  have S7 := Lib.hid (S6.out.quiet o7)
  clear S6 h7 o7
  simp only [List.length_cons, List.length_nil, Nat.zero_add] at e7 ⊢
  go_wp2_with fail
  go_ret
  exact ⟨rfl, S7.out.st.only⟩
end Go.Proofs.Ytdmkmjlkogkmgaa
