/- The device's calls, each in one contract that says what it answers at all arguments. -/
import Derived.Test.YtfnedeaemjchgaaGreatD8
namespace Go.Proofs.YtfnedeaemjchgaaGreat
open Go.RowKit Go.Maps
set_option linter.unusedSimpArgs false
set_option linter.unusedVariables false

/-- An error by its number; 0: none. -/
def errV (c : Int) : Value := if c = 0 then .nilIface else err c
def Disk.code (d : Disk) (at_ : Int) (n : Nat) : Int := if inB at_ d.size = false then 1 else if n ≠ 512 then 2 else if d.met.off = true then 3 else 0
def Disk.wr (d : Disk) (at_ : Int) (l : Sec) : Disk := if d.code at_ l.length = 0 then d.write at_ l else if d.code at_ l.length = 3 then d.fall else d
theorem write_all {w : World} {a : DA} {d : Disk} (at_ : Int) (v : Value) (ls : List Sec) (h : Dev w a d) (hv : Parts w v ls) (hf : Fits ls) :
    Calls Tryz.prog 63 #[.pointer (some ⟨a.p, 0, none⟩), .int .i64 at_, v] w fun e w' => e = .returned (errV (d.code at_ ls.flatten.length)) ∧ Dev w' a (d.wr at_ ls.flatten) ∧ Only a.bl w w' := by
  have ht := total_flatten ls
  unfold Disk.wr Disk.code errV
  rw [← ht]
  cases hi : inB at_ d.size
  · simp only [if_true]
    refine (Write_out a d at_ v w h hi).mono ?_
    rintro e w' ⟨rfl, rfl⟩
    exact ⟨by simp, by simpa using h, Only.refl _ _⟩
  · by_cases h5 : total ls = 512
    · cases hd : d.met.off
      · refine (Write_on a d at_ v ls w h hi hv hf h5 hd).mono ?_
        rintro e w' ⟨rfl, h1, h2⟩
        simpa [h5] using And.intro h1 h2
      · refine (Write_off a d at_ v ls w h hi hv hf h5 hd).mono ?_
        rintro e w' ⟨rfl, h1, h2⟩
        simpa [h5] using And.intro h1 h2
    · refine (Write_form a d at_ v ls w h hi hv hf h5).mono ?_
      rintro e w' ⟨rfl, rfl⟩
      simpa [h5] using And.intro h (Only.refl _ _)

def Disk.rcode (d : Disk) (at_ : Int) : Int := if inB at_ d.size = false then 1 else if d.met.down = true then 3 else 0
def Disk.rget (d : Disk) (at_ : Int) : Sec := if d.rcode at_ = 0 then d.get at_ else []
theorem bytes_nil0 (w : World) : Bytes w (.slice none 0 0) [] := ⟨none, 0, rfl, fun i c h => by simp at h⟩
theorem read_all {w : World} {a : DA} {d : Disk} (at_ : Int) (h : Dev w a d) :
    Calls Tryz.prog 72 #[.pointer (some ⟨a.p, 0, none⟩), .int .i64 at_] w fun e w' => ∃ v, e = .returned (.tuple #[v, errV (d.rcode at_)]) ∧ Bytes w' v (d.rget at_) ∧ Row w' v (d.rget at_).length ∧ (d.rget at_).length ≤ 512 ∧ (∀ g, v.ownBlock = some g → w.heap.size ≤ g) ∧ Only [] w w' := by
  unfold Disk.rget Disk.rcode errV
  cases hi : inB at_ d.size
  · refine (Read_out a d at_ w h hi).mono ?_
    rintro e w' ⟨rfl, rfl⟩
    exact ⟨_, rfl, by simpa using bytes_nil0 _, .inl ⟨rfl, rfl⟩, by simp, fun g h => (by cases h), Only.refl _ _⟩
  · cases hd : d.met.down
    · refine (Read_any a d at_ w h hi hd).mono ?_
      rintro e w' ⟨g, rfl, hb, hg, ho⟩
      have hl : (d.get at_).length = 512 := by
        unfold Disk.get
        cases hm : d.now at_ with
        | none => exact zeros_length
        | some l =>
          obtain ⟨n, D, _, hr⟩ := h.now
          exact (hr.len at_ l hm).1
      have h1 := hb.bytes 512
      have h2 := hb.row (by rw [hl]; unfold maxLen; omega)
      rw [hl] at h1 h2
      refine ⟨_, rfl, by simpa using h1, by simpa [hl] using h2, by simp [hl], fun g' h' => (by cases h'; exact hg), ho⟩
    · refine (Read_down a d at_ w h hi hd).mono ?_
      rintro e w' ⟨rfl, rfl⟩
      exact ⟨_, rfl, by simpa using bytes_nil0 _, .inl ⟨rfl, rfl⟩, by simp, fun g h => (by cases h), Only.refl _ _⟩
def Disk.scode (d : Disk) : Int := if d.met.off = true then 3 else 0
def Disk.sy (d : Disk) : Disk := if d.met.off = true then d.fall else d.sync
theorem sync_all {w : World} {a : DA} {d : Disk} (h : Dev w a d) :
    Calls Tryz.prog 54 #[.pointer (some ⟨a.p, 0, none⟩)] w fun e w' => e = .returned (errV d.scode) ∧ Dev w' a d.sy ∧ Only a.bl w w' := by
  unfold Disk.scode Disk.sy errV
  cases hd : d.met.off
  · refine (Sync_on a d w h hd).mono ?_
    rintro e w' ⟨rfl, h1, h2⟩
    simpa using And.intro h1 h2
  · refine (Sync_off a d w h hd).mono ?_
    rintro e w' ⟨rfl, h1, h2⟩
    simpa using And.intro h1 h2
theorem arm_all {w : World} {a : DA} {d : Disk} (n : Int) (h : Dev w a d) (hn : 0 ≤ n) :
    Calls Tryz.prog 10 #[.pointer (some ⟨a.p, 0, none⟩), .int .i64 n] w fun e w' => e = .returned (errV 0) ∧ Dev w' a { d with met := d.met.arm n } ∧ Only a.bl w w' := by
  refine (Arm_any a.p d.met d.size a.bn a.bs n w h.blk hn).mono ?_
  rintro e w' ⟨rfl, hb, ho⟩
  have hnp := h.np
  have hsp := h.sp
  exact ⟨by simp [errV], ⟨hb, h.now.kept ho (by simpa using hnp), h.old.kept ho (by simpa using hsp), h.ne, h.lo, h.hi⟩, ho.mono (by simp [DA.bl])⟩
end Go.Proofs.YtfnedeaemjchgaaGreat
