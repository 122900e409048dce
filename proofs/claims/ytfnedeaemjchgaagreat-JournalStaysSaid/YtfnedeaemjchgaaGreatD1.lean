/- The device's small functions: its counts, its steps, its power. -/
import Derived.Test.YtfnedeaemjchgaaGreatB2
namespace Go.Proofs.YtfnedeaemjchgaaGreat
open Go.RowKit Go.Maps

theorem load_any (b o : Nat) (x : Int) (w : World) (hc : w.cell? ⟨b, o, none⟩ = some (.int .i64 x)) :
    Calls Tryz.prog 86 #[.pointer (some ⟨b, o, none⟩)] w fun e w' => e = .returned (.int .i64 x) ∧ w = w' := by
  have h := run_call_load (P := Tryz.prog) Tryz.func97 (by kernel_rfl) (by kernel_rfl) (by kernel_rfl) .i64 (by kernel_rfl) hc
  go_enter Tryz.func86, Tryz.ntmps86
  go_wp2
  go_ret
  exact ⟨rfl, rfl⟩

theorem add_any (b o : Nat) (x y : Int) (w : World) (hc : w.cell? ⟨b, o, none⟩ = some (.int .i64 x)) (hz : w.frozen? ⟨b, o, none⟩ = false) :
    Calls Tryz.prog 71 #[.pointer (some ⟨b, o, none⟩), .int .i64 y] w fun e w' => e = .returned (.int .i64 (wrap64 (x + y))) ∧ w.setCell ⟨b, o, none⟩ (.int .i64 (wrap64 (x + y))) = w' := by
  have h := run_call_add (P := Tryz.prog) Tryz.func87 (by kernel_rfl) (by kernel_rfl) (by kernel_rfl) .i64 (by kernel_rfl) (y := y) (s := wrap64 (x + y)) hc hz (by simp [go_sem, wrap64, IntKind.wrap_i64])
  go_enter Tryz.func71, Tryz.ntmps71
  go_wp2
  go_ret
  exact ⟨rfl, rfl⟩

theorem store_any (b o : Nat) (u : Value) (y : Int) (w : World) (hc : w.cell? ⟨b, o, none⟩ = some u) (hz : w.frozen? ⟨b, o, none⟩ = false) :
    Calls Tryz.prog 51 #[.pointer (some ⟨b, o, none⟩), .int .i64 y] w fun e w' => e = .returned (.tuple #[]) ∧ w.setCell ⟨b, o, none⟩ (.int .i64 y) = w' := by
  have h := run_call_store (P := Tryz.prog) Tryz.func67 (by kernel_rfl) (by kernel_rfl) (by kernel_rfl) (by kernel_rfl) (y := y) (k := .i64) hc hz
  go_enter Tryz.func51, Tryz.ntmps51
  go_wp2
  go_end0
  exact ⟨rfl, rfl⟩

/-- The counts and the power. -/
structure Met where
  steps : Int
  syncs : Int
  left : Int
  armed : Bool
  down : Bool
def Met.cells (m : Met) (size : Int) (bn bs : Nat) : Array Value := #[.int .i64 m.steps, .int .i64 m.syncs, .int .i64 m.left, .bool m.armed, .bool m.down, .int .i64 size, .map (some bn), .map (some bs)]
/-- Is the power gone, or does it go at the next step? -/
def Met.off (m : Met) : Bool := m.down || (m.armed && decide (m.left = 0))
def Met.fall (m : Met) : Met := { m with down := true }
def Met.tick (m : Met) : Met := { m with steps := wrap64 (m.steps + 1), left := if m.armed then wrap64 (m.left + -1) else m.left }

/-- Block p is a device's struct. -/
def DBlk (w : World) (p : Nat) (m : Met) (size : Int) (bn bs : Nat) : Prop := w.heap[p]? = some (.cells (m.cells size bn bs) 79 (0, 0))

section
variable {w : World} {p : Nat} {m : Met} {size : Int} {bn bs : Nat} (h : DBlk w p m size bn bs)
include h
theorem DBlk.c0 : w.cell? ⟨p, 0, none⟩ = some (.int .i64 m.steps) := (cell_at 0 h).trans rfl
theorem DBlk.c1 : w.cell? ⟨p, 1, none⟩ = some (.int .i64 m.syncs) := (cell_at 1 h).trans rfl
theorem DBlk.c2 : w.cell? ⟨p, 2, none⟩ = some (.int .i64 m.left) := (cell_at 2 h).trans rfl
theorem DBlk.c3 : w.cell? ⟨p, 3, none⟩ = some (.bool m.armed) := (cell_at 3 h).trans rfl
theorem DBlk.c4 : w.cell? ⟨p, 4, none⟩ = some (.bool m.down) := (cell_at 4 h).trans rfl
theorem DBlk.c5 : w.cell? ⟨p, 5, none⟩ = some (.int .i64 size) := (cell_at 5 h).trans rfl
theorem DBlk.c6 : w.cell? ⟨p, 6, none⟩ = some (.map (some bn)) := (cell_at 6 h).trans rfl
theorem DBlk.c7 : w.cell? ⟨p, 7, none⟩ = some (.map (some bs)) := (cell_at 7 h).trans rfl
theorem DBlk.free (i : Nat) : w.frozen? ⟨p, i, none⟩ = false := free_at i h
theorem DBlk.kept {S : List Nat} {w' : World} (ho : Only S w w') (hp : p ∉ S) : DBlk w' p m size bn bs := ho.heap h hp
theorem DBlk.lt : p < w.heap.size := lt_of_heap h
end

/-- The error with a number. -/

theorem step_off (p : Nat) (m : Met) (size : Int) (bn bs : Nat) (w : World) (h : DBlk w p m size bn bs) (hd : m.off = true) :
    Calls Tryz.prog 70 #[.pointer (some ⟨p, 0, none⟩)] w fun e w' => e = .returned (err 3) ∧ DBlk w' p m.fall size bn bs ∧ Only [p] w w' := by
  have c2 := h.c2
  have c3 := h.c3
  have c4 := h.c4
  have f4 := h.free 4
  obtain ⟨steps, syncs, left, armed, down⟩ := m
  have hk := heap_cell (g := p) (i := 4) (.bool true) h
  have H : Hid (DBlk w p ⟨steps, syncs, left, armed, down⟩ size bn bs) := Lib.hid h
  have HK := Lib.hid hk
  clear h hk
  dsimp only at c2 c3 c4
  cases armed
  · obtain rfl : down = true := by simpa [Met.off] using hd
    clear hd
    go_enter Tryz.func70, Tryz.ntmps70
    go_wp2
    go_ret
    exact ⟨rfl, H.out, Only.refl _ _⟩
  · by_cases hl : left = 0
    · subst hl
      clear hd
      go_enter Tryz.func70, Tryz.ntmps70
      go_wp2_with (go_at_call 86; (with_reducible refine (load_any _ _ _ _ c2).mono ?_); rintro e w' ⟨rfl, rfl⟩)
      go_ret
      exact ⟨rfl, HK.out, (Only.refl _ _).setCell (by simp) _⟩
    · obtain rfl : down = true := by simpa [Met.off, hl] using hd
      have hb : (left == 0) = false := by simpa using hl
      clear hd
      go_enter Tryz.func70, Tryz.ntmps70
      go_wp2_with (go_at_call 86; (with_reducible refine (load_any _ _ _ _ c2).mono ?_); rintro e w' ⟨rfl, rfl⟩)
      go_ret
      exact ⟨rfl, H.out, Only.refl _ _⟩

theorem step_on (p : Nat) (m : Met) (size : Int) (bn bs : Nat) (w : World) (h : DBlk w p m size bn bs) (hd : m.off = false) :
    Calls Tryz.prog 70 #[.pointer (some ⟨p, 0, none⟩)] w fun e w' => e = .returned .nilIface ∧ DBlk w' p m.tick size bn bs ∧ Only [p] w w' := by
  have c0 := h.c0
  have c2 := h.c2
  have c3 := h.c3
  have c4 := h.c4
  have f0 := h.free 0
  have f2 := h.free 2
  obtain ⟨steps, syncs, left, armed, down⟩ := m
  have hk0 := heap_cell (g := p) (i := 0) (.int .i64 (wrap64 (steps + 1))) h
  have hk2 := heap_cell (g := p) (i := 2) (.int .i64 (wrap64 (left + -1))) h
  have hk02 := heap_cell (g := p) (i := 0) (.int .i64 (wrap64 (steps + 1))) hk2
  have d0 : (w.setCell ⟨p, 2, none⟩ (.int .i64 (wrap64 (left + -1)))).cell? ⟨p, 0, none⟩ = some (.int .i64 steps) := (World.cell?_setCell_other _ ⟨p, 2, none⟩ ⟨p, 0, none⟩ _ (by simp)).trans c0
  have e0 : (w.setCell ⟨p, 2, none⟩ (.int .i64 (wrap64 (left + -1)))).frozen? ⟨p, 0, none⟩ = false := by simpa using f0
  have HK0 := Lib.hid hk0
  have HK02 := Lib.hid hk02
  clear h hk0 hk2 hk02
  dsimp only at c0 c2 c3 c4
  cases armed
  · obtain rfl : down = false := by simpa [Met.off] using hd
    clear hd
    go_enter Tryz.func70, Tryz.ntmps70
    go_wp2_with (go_at_call 71; (with_reducible refine (add_any _ _ _ _ _ c0 f0).mono ?_); rintro e w' ⟨rfl, rfl⟩)
    go_ret
    exact ⟨rfl, HK0.out, (Only.refl _ _).setCell (by simp) _⟩
  · have hl : left ≠ 0 := by intro e; subst e; simp [Met.off] at hd
    obtain rfl : down = false := by simpa [Met.off, hl] using hd
    have hb : (left == 0) = false := by simpa using hl
    clear hd
    go_enter Tryz.func70, Tryz.ntmps70
    go_wp2_with (first | (go_at_call 86; (with_reducible refine (load_any _ _ _ _ c2).mono ?_); rintro e w' ⟨rfl, rfl⟩) | (go_at_call 71; (with_reducible refine (add_any _ _ _ _ _ c2 f2).mono ?_); rintro e w' ⟨rfl, rfl⟩) | (go_at_call 71; (with_reducible refine (add_any _ _ _ _ _ d0 e0).mono ?_); rintro e w' ⟨rfl, rfl⟩))
    go_ret
    exact ⟨rfl, HK02.out, ((Only.refl _ _).setCell (by simp) _).setCell (by simp) _⟩


/-! ### the device's own small functions -/
theorem has_nil (at_ : Int) (w : World) : Calls Tryz.prog 78 #[.pointer none, .int .i64 at_] w fun e w' => e = .returned (.bool false) ∧ w = w' := by
  go_enter Tryz.func78, Tryz.ntmps78
  go_wp2
  go_ret
  exact ⟨rfl, rfl⟩

def inB (at_ size : Int) : Bool := decide (0 ≤ at_) && decide (at_ < size)

theorem has_any (p : Nat) (m : Met) (size : Int) (bn bs : Nat) (at_ : Int) (w : World) (h : DBlk w p m size bn bs) :
    Calls Tryz.prog 78 #[.pointer (some ⟨p, 0, none⟩), .int .i64 at_] w fun e w' => e = .returned (.bool (inB at_ size)) ∧ w = w' := by
  have c5 := h.c5
  clear h
  by_cases h0 : 0 ≤ at_
  · go_enter Tryz.func78, Tryz.ntmps78
    go_wp2
    go_ret
    exact ⟨by simp [inB, h0], rfl⟩
  · have h1 : at_ < 0 := by omega
    go_enter Tryz.func78, Tryz.ntmps78
    go_wp2
    go_ret
    exact ⟨by simp [inB]; omega, rfl⟩

theorem size_nil (w : World) : Calls Tryz.prog 61 #[.pointer none] w fun e w' => e = .returned (.int .i64 0) ∧ w = w' := by
  go_enter Tryz.func61, Tryz.ntmps61
  go_wp2
  go_ret
  exact ⟨rfl, rfl⟩
theorem size_any (p : Nat) (m : Met) (size : Int) (bn bs : Nat) (w : World) (h : DBlk w p m size bn bs) :
    Calls Tryz.prog 61 #[.pointer (some ⟨p, 0, none⟩)] w fun e w' => e = .returned (.int .i64 size) ∧ w = w' := by
  have c5 := h.c5
  clear h
  go_enter Tryz.func61, Tryz.ntmps61
  go_wp2
  go_ret
  exact ⟨rfl, rfl⟩
theorem down_nil (w : World) : Calls Tryz.prog 38 #[.pointer none] w fun e w' => e = .returned (.bool false) ∧ w = w' := by
  go_enter Tryz.func38, Tryz.ntmps38
  go_wp2
  go_ret
  exact ⟨rfl, rfl⟩
theorem down_any (p : Nat) (m : Met) (size : Int) (bn bs : Nat) (w : World) (h : DBlk w p m size bn bs) :
    Calls Tryz.prog 38 #[.pointer (some ⟨p, 0, none⟩)] w fun e w' => e = .returned (.bool m.down) ∧ w = w' := by
  have c4 := h.c4
  clear h
  go_enter Tryz.func38, Tryz.ntmps38
  go_wp2
  go_ret
  exact ⟨rfl, rfl⟩
def Met.arm (m : Met) (n : Int) : Met := { m with armed := true, left := n }
def Met.rest (m : Met) : Met := { m with armed := false, down := false }

theorem arm_any (p : Nat) (m : Met) (size : Int) (bn bs : Nat) (n : Int) (w : World) (h : DBlk w p m size bn bs) :
    Calls Tryz.prog 37 #[.pointer (some ⟨p, 0, none⟩), .int .i64 n] w fun e w' => e = .returned (.tuple #[]) ∧ DBlk w' p (m.arm n) size bn bs ∧ Only [p] w w' := by
  have c3 := h.c3
  have c2 := h.c2
  have f3 := h.free 3
  have hk := heap_cell (g := p) (i := 2) (.int .i64 n) (heap_cell (g := p) (i := 3) (.bool true) h)
  have d2 : (w.setCell ⟨p, 3, none⟩ (.bool true)).cell? ⟨p, 2, none⟩ = some (.int .i64 m.left) := (World.cell?_setCell_other _ ⟨p, 3, none⟩ ⟨p, 2, none⟩ _ (by simp)).trans c2
  have e2 : (w.setCell ⟨p, 3, none⟩ (.bool true)).frozen? ⟨p, 2, none⟩ = false := by simpa using h.free 2
  have HK := Lib.hid hk
  clear h hk
  go_enter Tryz.func37, Tryz.ntmps37
  go_wp2_with (go_at_call 51; (with_reducible refine (store_any _ _ _ _ _ d2 e2).mono ?_); rintro e w' ⟨rfl, rfl⟩)
  go_end0
  exact ⟨rfl, HK.out, ((Only.refl _ _).setCell (by simp) _).setCell (by simp) _⟩

theorem restore_any (p : Nat) (m : Met) (size : Int) (bn bs : Nat) (w : World) (h : DBlk w p m size bn bs) :
    Calls Tryz.prog 56 #[.pointer (some ⟨p, 0, none⟩)] w fun e w' => e = .returned (.tuple #[]) ∧ DBlk w' p m.rest size bn bs ∧ Only [p] w w' := by
  have c3 := h.c3
  have c4 := h.c4
  have f3 := h.free 3
  have f4 := h.free 4
  have hk := heap_cell (g := p) (i := 4) (.bool false) (heap_cell (g := p) (i := 3) (.bool false) h)
  have HK := Lib.hid hk
  clear h hk
  go_enter Tryz.func56, Tryz.ntmps56
  go_wp2
  go_end0
  exact ⟨rfl, HK.out, ((Only.refl _ _).setCell (by simp) _).setCell (by simp) _⟩

theorem Arm_nil (n : Int) (w : World) : Calls Tryz.prog 10 #[.pointer none, .int .i64 n] w fun e w' => e = .returned (err 1) ∧ w = w' := by
  go_enter Tryz.func10, Tryz.ntmps10
  go_wp2
  go_ret
  exact ⟨rfl, rfl⟩
theorem Arm_bad (p : Nat) (n : Int) (w : World) (hn : n < 0) : Calls Tryz.prog 10 #[.pointer (some ⟨p, 0, none⟩), .int .i64 n] w fun e w' => e = .returned (err 1) ∧ w = w' := by
  go_enter Tryz.func10, Tryz.ntmps10
  go_wp2
  go_ret
  exact ⟨rfl, rfl⟩
theorem Arm_any (p : Nat) (m : Met) (size : Int) (bn bs : Nat) (n : Int) (w : World) (h : DBlk w p m size bn bs) (hn : 0 ≤ n) :
    Calls Tryz.prog 10 #[.pointer (some ⟨p, 0, none⟩), .int .i64 n] w fun e w' => e = .returned .nilIface ∧ DBlk w' p (m.arm n) size bn bs ∧ Only [p] w w' := by
  go_enter Tryz.func10, Tryz.ntmps10
  go_wp2_with (go_at_call 37; (with_reducible refine (arm_any p m size bn bs n _ h).mono ?_); rintro e w' ⟨rfl, hb, ho⟩)
  go_ret
  exact ⟨rfl, hb, ho⟩

end Go.Proofs.YtfnedeaemjchgaaGreat
