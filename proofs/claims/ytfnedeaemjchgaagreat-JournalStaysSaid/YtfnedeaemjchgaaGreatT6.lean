/- Slots on a device that the caller made itself; the chapter's example runs as it says. -/
import Derived.Test.YtfnedeaemjchgaaGreatT5
namespace Go.Proofs.YtfnedeaemjchgaaGreat
open Go.RowKit Go.Maps
set_option linter.unusedSimpArgs false
set_option linter.unusedVariables false

/-- Since w0 a device and slots on it were made, and nothing that was there has turned. -/
structure SSt (w0 w : World) (a : DA) (d : Disk) (p : Nat) (v : Value) (s : SL) : Prop where
  st : St w0 w a d
  slot : Slot w p a v s
  newp : w0.heap.size ≤ p
section
variable {w0 w w' : World} {a : DA} {d d' : Disk} {p : Nat} {v v' : Value} {s s' : SL}
theorem SSt.quiet (h : SSt w0 w a d p v s) (ho : Only [] w w') : SSt w0 w' a d p v s := ⟨h.st.quiet ho, h.slot.quiet ho, h.newp⟩
theorem SSt.dev (h : SSt w0 w a d p v s) (ho : Only a.bl w w') (hd : Dev w' a d') : SSt w0 w' a d' p v s := ⟨h.st.step ho hd, h.slot.dev h.st.dev ho, h.newp⟩
theorem format_st {at_ : Int} {rv : Value} {r : Sec} (h : St w0 w a d) (hr : Bytes w rv r) (hl : r.length ≤ 480) (hd : d.Calm) (hf : fitB at_ d.size = true) (hw : w0.heap.size ≤ w.heap.size) :
    Calls Tryz.prog 45 #[.pointer (some ⟨a.p, 0, none⟩), .int .i64 at_, rv] w fun e w' => ∃ p v, e = .returned (.tuple #[.pointer (some ⟨p, 0, none⟩), .nilIface]) ∧ SSt w0 w' a (d.fm at_ r) p v ⟨at_, 1, r, false⟩ := by
  refine (Format_any at_ rv r h.dev hr (by omega)).mono ?_
  rintro e w' ⟨hd', ho, hy, _⟩
  obtain ⟨p, v, rfl, hs, hp, _⟩ := hy (fm_calm hd hf hl).1
  exact ⟨p, v, rfl, h.step ho hd', hs, Nat.le_trans hw hp⟩
theorem save_st {rv : Value} {r : Sec} (h : SSt w0 w a d p v s) (hr : Bytes w rv r) (hf : fitB s.at_ d.size = true) (hl : r.length ≤ 4611686018427387904) :
    Calls Tryz.prog 55 #[.pointer (some ⟨p, 0, none⟩), rv] w fun e w' => e = .returned (errV (s.scode d r)) ∧ ∃ v', SSt w0 w' a (s.sdisk d r) p v' (s.save d r) := by
  refine (save_any rv r h.slot h.st.dev hr hf hl).mono ?_
  rintro e w' ⟨rfl, hd', ho, v', hs, _⟩
  refine ⟨rfl, v', ⟨hd', h.st.only.trans ho (fun k hk => ?_), h.st.new⟩, hs, h.newp⟩
  simp only [SA, List.mem_cons] at hk
  rcases hk with rfl | hk
  · exact .inr h.newp
  · exact .inr (h.st.new k hk)
/-- A Save with the power there. -/
theorem save_calm {rv : Value} {r : Sec} (h : SSt w0 w a d p v s) (hr : Bytes w rv r) (hl : r.length ≤ 480) (hd : d.Calm) (hh : Holds d s) (hn : s.n < 4611686018427387904) (hc : s.cut = false) :
    Calls Tryz.prog 55 #[.pointer (some ⟨p, 0, none⟩), rv] w fun e w' => e = .returned .nilIface ∧ ∃ v' d', SSt w0 w' a d' p v' (s.put r) ∧ d'.Calm ∧ Holds d' (s.put r) := by
  have hlo := hh.lo
  obtain ⟨e1, e2, e3, e4⟩ := SL.save_calm (r := r) hd hh.place (by omega) hn hc hl
  refine (save_st h hr hh.fit (by omega)).mono ?_
  rintro e w' ⟨rfl, v', h'⟩
  rw [e1, e2, e3] at *
  exact ⟨rfl, v', _, h', hd.ly hh.place (SL.sec_len (by omega) (by omega) hl), hh.yes hn hl e4⟩
/-- An Open where a row is in force. -/
theorem open_holds {s : SL} (h : St w0 w a d) (hd : d.met.down = false) (hh : Holds d s) (hw : w0.heap.size ≤ w.heap.size) :
    Calls Tryz.prog 57 #[.pointer (some ⟨a.p, 0, none⟩), .int .i64 s.at_] w fun e w' => ∃ p v, e = .returned (.tuple #[.pointer (some ⟨p, 0, none⟩), .nilIface]) ∧ SSt w0 w' a d p v ⟨s.at_, s.n, s.row, false⟩ ∧ Only [] w w' := by
  have hlo := hh.lo
  have hc : d.ocode s.at_ = 0 := by
    have h0 : ¬ s.n = 0 := by omega
    simp [Disk.ocode, hh.fit, hd, hh.op, h0]
  refine (Open_any s.at_ h.dev).mono ?_
  rintro e w' ⟨⟨hd', ho, hy, _⟩, hq⟩
  obtain ⟨p, v, rfl, hs, hp, _⟩ := hy hc
  rw [hh.op] at hs
  exact ⟨p, v, rfl, ⟨h.quiet hq, hs, Nat.le_trans hw hp⟩, hq⟩
end

theorem lit1 (w : World) (c : UInt8) (x : Int) (hx : x = c.toNat) (fr : Nat × Nat) : Bytes (w.alloc (.cells #[.int .u8 x] 5 fr)) (.slice (some ⟨w.heap.size, 0, none⟩) 1 1) [c] :=
  bytes_made w [c] (by rw [hx]; rfl) 1 rfl rfl

end Go.Proofs.YtfnedeaemjchgaaGreat
