/- Slots: the device is armed, and crashes; Saves that tell what they turn. -/
import Derived.Test.YtfnedeaemjchgaaGreatT6
namespace Go.Proofs.YtfnedeaemjchgaaGreat
open Go.RowKit Go.Maps
set_option linter.unusedVariables false
set_option linter.unusedSimpArgs false

theorem St.offI {w0 w : World} {a : DA} {d : Disk} (h : St w0 w a d) {v : Value} {l : List Int} (hv : IntsV w0 v l) : Off v a.bl := by
  intro ad n c e hn hm
  obtain ⟨a', cap, e2, hc⟩ := hv
  rw [e2] at e
  cases e
  obtain ⟨_, b', off, e3, hcell⟩ := hc 0 l[0] (List.getElem?_eq_getElem hn)
  cases e3
  have h1 : b' < w0.heap.size := World.block_lt_of_cell? _ _ hcell
  have h2 := h.new b' hm
  omega
theorem arm_sst {w0 w : World} {a : DA} {d : Disk} {p : Nat} {v : Value} {s : SL} (n : Int) (h : SSt w0 w a d p v s) (hn : 0 ≤ n) :
    Calls Tryz.prog 10 #[.pointer (some ⟨a.p, 0, none⟩), .int .i64 n] w fun e w' => e = .returned (errV 0) ∧ SSt w0 w' a { d with met := d.met.arm n } p v s := by
  refine (arm_all n h.st.dev hn).mono ?_
  rintro e w' ⟨rfl, hd, ho⟩
  exact ⟨rfl, h.dev ho hd⟩
theorem arm_sst' {w0 w : World} {a : DA} {d : Disk} {p : Nat} {v : Value} {s : SL} (n : Int) (h : SSt w0 w a d p v s) (hn : 0 ≤ n) :
    Calls Tryz.prog 10 #[.pointer (some ⟨a.p, 0, none⟩), .int .i64 n] w fun e w' => e = .returned (errV 0) ∧ SSt w0 w' a { d with met := d.met.arm n } p v s ∧ Only a.bl w w' := by
  refine (arm_all n h.st.dev hn).mono ?_
  rintro e w' ⟨rfl, hd, ho⟩
  exact ⟨rfl, h.dev ho hd, ho⟩
theorem crash_sst {w0 w : World} {a : DA} {d : Disk} {p : Nat} {v : Value} {s : SL} (kv : Value) (ks : List Int) (h : SSt w0 w a d p v s) (hk : IntsV w0 kv ks) (hl : ks.length ≤ maxLen) :
    Calls Tryz.prog 42 #[.pointer (some ⟨a.p, 0, none⟩), kv] w fun e w' => e = .returned (.tuple #[]) ∧ SSt w0 w' a (d.crash ks) p v s := by
  refine (Crash_any a d kv ks w h.st.dev (hk.kept h.st.only (fun _ _ _ _ _ => by simp)) (h.st.offI hk) (by unfold maxLen at hl; omega)).mono ?_
  rintro e w' ⟨rfl, hd, ho⟩
  exact ⟨rfl, h.dev ho hd⟩
theorem Holds.live {d : Disk} {s : SL} (h : Holds d s) : Holds d ⟨s.at_, s.n, s.row, false⟩ := ⟨h.fit, h.old, h.lo, h.this, h.that⟩
theorem crash_sst' {w0 w : World} {a : DA} {d : Disk} {p : Nat} {v : Value} {s : SL} (kv : Value) (ks : List Int) (h : SSt w0 w a d p v s) (hk : IntsV w0 kv ks) (hl : ks.length ≤ maxLen) :
    Calls Tryz.prog 42 #[.pointer (some ⟨a.p, 0, none⟩), kv] w fun e w' => e = .returned (.tuple #[]) ∧ SSt w0 w' a (d.crash ks) p v s ∧ Only a.bl w w' := by
  refine (Crash_any a d kv ks w h.st.dev (hk.kept h.st.only (fun _ _ _ _ _ => by simp)) (h.st.offI hk) (by unfold maxLen at hl; omega)).mono ?_
  rintro e w' ⟨rfl, hd, ho⟩
  exact ⟨rfl, h.dev ho hd, ho⟩
theorem strs_ne {A B : ByteArray} {a b : Sec} (hA : A = strOf a) (hB : B = strOf b) (h : a ≠ b) : (A.toList == B.toList) = false := by
  subst hA; subst hB
  unfold strOf
  rw [ByteArray.toList_mk, ByteArray.toList_mk, beq_eq_false_iff_ne]
  exact h
/-- Bytes that stay where they are behind a call on slots. -/
theorem SSt.bytes {w0 w w' : World} {a : DA} {d : Disk} {p : Nat} {v : Value} {s : SL} (h : SSt w0 w a d p v s) {rv : Value} {r : Sec} (hr : Bytes w rv r) (ho : Only (SA p a) w w') : Bytes w' rv r :=
  hr.keptOff ho (off_slot h.slot h.st.dev hr)
theorem save_st' {w0 w : World} {a : DA} {d : Disk} {p : Nat} {v : Value} {s : SL} {rv : Value} {r : Sec} (h : SSt w0 w a d p v s) (hr : Bytes w rv r) (hf : fitB s.at_ d.size = true) (hl : r.length ≤ 4611686018427387904) :
    Calls Tryz.prog 55 #[.pointer (some ⟨p, 0, none⟩), rv] w fun e w' => e = .returned (errV (s.scode d r)) ∧ (∃ v', SSt w0 w' a (s.sdisk d r) p v' (s.save d r)) ∧ Only (SA p a) w w' := by
  refine (save_any rv r h.slot h.st.dev hr hf hl).mono ?_
  rintro e w' ⟨rfl, hd', ho, v', hs, _⟩
  refine ⟨rfl, ⟨v', ⟨hd', h.st.only.trans ho (fun k hk => ?_), h.st.new⟩, hs, h.newp⟩, ho⟩
  simp only [SA, List.mem_cons] at hk
  rcases hk with rfl | hk
  · exact .inr h.newp
  · exact .inr (h.st.new k hk)
theorem save_calm' {w0 w : World} {a : DA} {d : Disk} {p : Nat} {v : Value} {s : SL} {rv : Value} {r : Sec} (h : SSt w0 w a d p v s) (hr : Bytes w rv r) (hl : r.length ≤ 480) (hd : d.Calm) (hh : Holds d s) (hn : s.n < 4611686018427387904) (hc : s.cut = false) :
    Calls Tryz.prog 55 #[.pointer (some ⟨p, 0, none⟩), rv] w fun e w' => e = .returned .nilIface ∧ (∃ v' d', SSt w0 w' a d' p v' (s.put r) ∧ d'.Calm ∧ Holds d' (s.put r)) ∧ Only (SA p a) w w' := by
  have hlo := hh.lo
  obtain ⟨e1, e2, e3, e4⟩ := SL.save_calm (r := r) hd hh.place (by omega) hn hc hl
  refine (save_st' h hr hh.fit (by omega)).mono ?_
  rintro e w' ⟨rfl, ⟨v', h'⟩, ho⟩
  rw [e1, e2, e3] at *
  exact ⟨rfl, ⟨v', _, h', hd.ly hh.place (SL.sec_len (by omega) (by omega) hl), hh.yes hn hl e4⟩, ho⟩
end Go.Proofs.YtfnedeaemjchgaaGreat
