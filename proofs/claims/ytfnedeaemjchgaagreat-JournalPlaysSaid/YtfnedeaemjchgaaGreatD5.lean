/- The device: what it holds, New, Read, Write, Sync. -/
import Derived.Test.YtfnedeaemjchgaaGreatD4
namespace Go.Proofs.YtfnedeaemjchgaaGreat
open Go.RowKit Go.Maps

/-- Where a device lies: its struct, its two maps. -/
structure DA where
  p : Nat
  bn : Nat
  bs : Nat
def DA.bl (a : DA) : List Nat := [a.p, a.bn, a.bs]
/-- What it holds. -/
structure Disk where
  met : Met
  size : Int
  now : Int → Option Sec
  old : Int → Option Sec

structure Dev (w : World) (a : DA) (d : Disk) : Prop where
  blk : DBlk w a.p d.met d.size a.bn a.bs
  now : SMap Tryz.prog w a.bn d.now
  old : SMap Tryz.prog w a.bs d.old
  ne : a.bn ≠ a.bs
  lo : 1 ≤ d.size
  hi : d.size ≤ 4096

section
variable {w w' : World} {a : DA} {d : Disk} (h : Dev w a d)
include h
theorem Dev.np : a.bn ≠ a.p := h.now.ne h.blk
theorem Dev.sp : a.bs ≠ a.p := h.old.ne h.blk
theorem Dev.kept {S : List Nat} (ho : Only S w w') (hs : ∀ k ∈ S, k ∉ a.bl) : Dev w' a d :=
  ⟨h.blk.kept ho fun e => hs _ e (by simp [DA.bl]), h.now.kept ho fun e => hs _ e (by simp [DA.bl]), h.old.kept ho fun e => hs _ e (by simp [DA.bl]), h.ne, h.lo, h.hi⟩
theorem Dev.clean : Clean a.bl w := fun ad v hc hv => by
  have h1 := cell_apart h.blk hc hv
  have h2 := cell_no_map h.now hc
  have h3 := cell_no_map h.old hc
  simp [DA.bl, h1, h2, h3]
theorem Dev.lt : ∀ k ∈ a.bl, k < w.heap.size := by
  intro k hk
  simp only [DA.bl, List.mem_cons, List.not_mem_nil, or_false] at hk
  rcases hk with rfl | rfl | rfl
  · exact h.blk.lt
  · exact h.now.lt
  · exact h.old.lt
end
theorem Clean.mono {S T : List Nat} {w : World} (h : Clean T w) (hs : ∀ k ∈ S, k ∈ T) : Clean S w := fun ad v hc hv e => h ad v hc hv (hs _ e)

def Disk.get (d : Disk) (k : Int) : Sec := (d.now k).getD zeros
def Met.fresh : Met := ⟨0, 0, 0, false, false⟩
def Disk.fresh (size : Int) : Disk := ⟨Met.fresh, size, fun _ => none, fun _ => none⟩

theorem key_int : Tryz.prog.underlying 3 = some (.int .i64) := Tryz.underlying3

theorem New_bad (size : Int) (w : World) (h : size < 1 ∨ 4096 < size) :
    Calls Tryz.prog 14 #[.int .i64 size] w fun e w' => e = .returned (.tuple #[.pointer none, err 1]) ∧ w = w' := by
  rcases h with h | h
  · go_enter Tryz.func14, Tryz.ntmps14
    go_wp2
    go_ret2
    exact ⟨rfl, rfl⟩
  · have h' : ¬ size < 1 := by omega
    go_enter Tryz.func14, Tryz.ntmps14
    go_wp2
    go_ret2
    exact ⟨rfl, rfl⟩

theorem New_any (size : Int) (w : World) (h0 : 1 ≤ size) (h1 : size ≤ 4096) :
    Calls Tryz.prog 14 #[.int .i64 size] w fun e w' => ∃ a : DA, e = .returned (.tuple #[.pointer (some ⟨a.p, 0, none⟩), .nilIface]) ∧ Dev w' a (.fresh size) ∧ (∀ k ∈ a.bl, w.heap.size ≤ k) ∧ Only [] w w' := by
  have hm := @run_makeMap Tryz.prog 77
  go_enter Tryz.func14, Tryz.ntmps14
  go_wp2
  go_ret2
  have o1 : Only [] w (w.alloc (.map #[] 0)) := (Only.refl _ _).alloc _
  have o2 : Only [] (w.alloc (.map #[] 0)) ((w.alloc (.map #[] 0)).alloc (.map #[] 0)) := (Only.refl _ _).alloc _
  have m1 : SMap Tryz.prog (w.alloc (.map #[] 0)) w.heap.size (fun _ => none) := SMap.made w
  have m2 : SMap Tryz.prog ((w.alloc (.map #[] 0)).alloc (.map #[] 0)) (w.heap.size + 1) (fun _ => none) := by
    have := SMap.made (P := Tryz.prog) (w.alloc (.map #[] 0))
    rwa [World.size_alloc] at this
  refine ⟨⟨w.heap.size + 1 + 1, w.heap.size, w.heap.size + 1⟩, rfl, ⟨?_, (m1.kept o2 (by simp)).kept ((Only.refl [] _).alloc _) (by simp), m2.kept ((Only.refl [] _).alloc _) (by simp), Nat.ne_of_lt (Nat.lt_succ_self _), h0, h1⟩, fun k hk => ?_, (o1.alloc _).alloc _⟩
  rotate_left
  · simp only [DA.bl, List.mem_cons, List.not_mem_nil, or_false] at hk
    omega
  have := heap_new ((w.alloc (.map #[] 0)).alloc (.map #[] 0)) (.cells (Met.fresh.cells size w.heap.size (w.heap.size + 1)) 79)
  rw [World.size_alloc, World.size_alloc] at this
  exact this

/-! ### Read -/
theorem Read_nil (at_ : Int) (w : World) : Calls Tryz.prog 72 #[.pointer none, .int .i64 at_] w fun e w' => e = .returned (.tuple #[.slice none 0 0, err 1]) ∧ w = w' := by
  go_enter Tryz.func72, Tryz.ntmps72
  go_wp2_with (go_at_call 78; (with_reducible refine (has_nil _ _).mono ?_); rintro e w' ⟨rfl, rfl⟩)
  go_ret2
  exact ⟨rfl, rfl⟩

theorem Read_out (a : DA) (d : Disk) (at_ : Int) (w : World) (h : Dev w a d) (hi : inB at_ d.size = false) :
    Calls Tryz.prog 72 #[.pointer (some ⟨a.p, 0, none⟩), .int .i64 at_] w fun e w' => e = .returned (.tuple #[.slice none 0 0, err 1]) ∧ w = w' := by
  have hc := has_any a.p d.met d.size a.bn a.bs at_ w h.blk
  rw [hi] at hc
  clear hi
  go_enter Tryz.func72, Tryz.ntmps72
  go_wp2_with (go_at_call 78; (with_reducible refine hc.mono ?_); rintro e w' ⟨rfl, rfl⟩)
  go_ret2
  exact ⟨rfl, rfl⟩

theorem Read_down (a : DA) (d : Disk) (at_ : Int) (w : World) (h : Dev w a d) (hi : inB at_ d.size = true) (hd : d.met.down = true) :
    Calls Tryz.prog 72 #[.pointer (some ⟨a.p, 0, none⟩), .int .i64 at_] w fun e w' => e = .returned (.tuple #[.slice none 0 0, err 3]) ∧ w = w' := by
  have hc := has_any a.p d.met d.size a.bn a.bs at_ w h.blk
  rw [hi] at hc
  have c4 := h.blk.c4
  rw [hd] at c4
  clear hi hd
  go_enter Tryz.func72, Tryz.ntmps72
  go_wp2_with (go_at_call 78; (with_reducible refine hc.mono ?_); rintro e w' ⟨rfl, rfl⟩)
  go_ret2
  exact ⟨rfl, rfl⟩

theorem inB_iff {k size : Int} : inB k size = true ↔ 0 ≤ k ∧ k < size := by simp [inB]
theorem Dev.get_length {w : World} {a : DA} {d : Disk} (h : Dev w a d) (k : Int) : (d.get k).length = 512 := by
  unfold Disk.get
  obtain ⟨n, D, _, hr⟩ := h.now
  cases hm : d.now k with
  | none => exact zeros_length
  | some l => exact (hr.len k l hm).1

theorem slice_all (g : Nat) (w : World) : (Instr.sliceAt 98 (.pointer (some ⟨g, 0, none⟩)) none none none).run Tryz.prog w = .ok (.slice (some ⟨g, 0, none⟩) 512 512) w := by
  simp [Instr.sliceAt, go_sem]

theorem sector_bytes {w : World} {g : Nat} {l : Sec} {t : TypeId} {fr : Nat × Nat} (h : w.heap[g]? = some (.cells (enc l) t fr)) (hl : l.length = 512) : Bytes w (.slice (some ⟨g, 0, none⟩) 512 512) l :=
  ⟨_, 512, by rw [hl], fun i c hi => ⟨g, 0, rfl, by rw [Nat.zero_add, cell_at i h, enc_get, hi]; rfl⟩⟩

set_option maxRecDepth 100000 in
theorem Read_any (a : DA) (d : Disk) (at_ : Int) (w : World) (h : Dev w a d) (hi : inB at_ d.size = true) (hd : d.met.down = false) :
    Calls Tryz.prog 72 #[.pointer (some ⟨a.p, 0, none⟩), .int .i64 at_] w fun e w' => ∃ g, e = .returned (.tuple #[.slice (some ⟨g, 0, none⟩) 512 512, .nilIface]) ∧ BBlk w' g (d.get at_) ∧ w.heap.size ≤ g ∧ Only [] w w' := by
  have hc := has_any a.p d.met d.size a.bn a.bs at_ w h.blk
  rw [hi] at hc
  have c4 := h.blk.c4
  have c6 := h.blk.c6
  rw [hd] at c4
  have hin := inB_iff.1 hi
  have hhi := h.hi
  have hl := h.now.look key_int Tryz.underlying77 zero_sector (wf_i64 hin.1 (by omega))
  change _ = Result.ok (Value.agg (enc (d.get at_))) w at hl
  have hlen := h.get_length at_
  have HL := Lib.hid hlen
  obtain ⟨l, hl'⟩ : ∃ l, l = d.get at_ := ⟨_, rfl⟩
  rw [← hl'] at hl HL
  have HE := Lib.hid hl'
  have hsl := slice_all
  clear hi hd hlen hl' h hin
  go_enter Tryz.func72, Tryz.ntmps72
  go_wp2_with (first
    | (go_at_call 78; (with_reducible refine hc.mono ?_); rintro e w' ⟨rfl, rfl⟩)
    | (refine wpList_alloc_sector rfl rfl ?_; intro w1 g1 hb1 hg1 ho1)
    | (refine wpList_store_sector (l := l) (old := zeros) rfl (.tmp 6) (.tmp 24) rfl g1 (by rfl) (by rfl) HL.out zeros_length hb1 ?_; intro w2 hb2 ho2)
    | (refine wpList_make512 rfl rfl ?_; intro w3 g3 hb3 hg3 ho3)
    | (refine wpList_copy_bytes rfl (.tmp 26) (.tmp 27) rfl zeros l g3 0 5 hb3 _ _ _ (by rfl) (fun _ => rfl) (by rw [HL.out]; omega) (by rw [HL.out, zeros_length]; omega) _ (by rfl) (sector_bytes (ho3.heap hb2 (by simp)) HL.out) ?_; intro w4 hb4 ho4))
  go_ret2
  rw [spl_whole _ _ (by rw [HL.out, zeros_length])] at hb4
  have z1 := ho1.size
  have z2 := ho2.size
  refine ⟨g3, rfl, by rw [← HE.out]; exact hb4, by omega, ?_⟩
  exact ((ho1.trans ho2 (by simp; omega)).trans ho3 (by simp)).trans ho4 (by simp; omega)
end Go.Proofs.YtfnedeaemjchgaaGreat
