/- The calls on a device that the caller has made itself. -/
import Derived.Test.YtfnedeaemjchgaaGreatD7
import Derived.Laws.IdiomStrings
namespace Go.Proofs.YtfnedeaemjchgaaGreat
open Go.RowKit Go.Maps

/-- Since w0 the device was made, and nothing that was there has turned. -/
structure St (w0 w : World) (a : DA) (d : Disk) : Prop where
  dev : Dev w a d
  only : Only [] w0 w
  new : ∀ k ∈ a.bl, w0.heap.size ≤ k

theorem St.quiet {w0 w w' : World} {a : DA} {d : Disk} (h : St w0 w a d) (ho : Only [] w w') : St w0 w' a d := ⟨h.dev.kept ho (by simp), h.only.trans ho (by simp), h.new⟩
theorem St.step {w0 w w' : World} {a : DA} {d d' : Disk} (h : St w0 w a d) (ho : Only a.bl w w') (hd : Dev w' a d') : St w0 w' a d' := ⟨hd, h.only.trans ho (fun k hk => .inr (h.new k hk)), h.new⟩

theorem St.apart {w0 w : World} {a : DA} {d : Disk} (h : St w0 w a d) {g : Nat} {l : Sec} (hb : BBlk w g l) (hl : l.length = 512) : g ∉ a.bl := by
  have h0 : l[0]? = some l[0] := List.getElem?_eq_getElem (by omega)
  exact h.dev.clean _ _ (hb.cell h0) (.inl ⟨_, rfl⟩)

theorem St.apart' {w0 w : World} {a : DA} {d : Disk} (h : St w0 w a d) {g : Nat} {cs : Array Value} {t : TypeId} {fr : Nat × Nat} (hb : w.heap[g]? = some (.cells cs t fr)) (ht : t ≠ 79) : g ∉ a.bl := by
  have h1 := h.dev.blk
  have h2 := h.dev.now.ne hb
  have h3 := h.dev.old.ne hb
  simp only [DA.bl, List.mem_cons, List.not_mem_nil, or_false]
  rintro (e | e | e)
  · rw [e, show w.heap[a.p]? = _ from h1] at hb
    cases hb
    exact ht rfl
  · exact h2 e.symm
  · exact h3 e.symm

theorem fits_one {l : Sec} (hl : l.length = 512) : Fits [l] := ⟨by simp, fun x hx => by simp at hx; subst hx; omega⟩
theorem parts_one {w : World} {g : Nat} {l : Sec} (hb : BBlk w g l) (hl : l.length = 512) :
    Parts (w.alloc (.cells #[.slice (some ⟨g, 0, none⟩) 512 512] 27)) (.slice (some ⟨w.heap.size, 0, none⟩) 1 1) [l] := by
  refine ⟨_, 1, rfl, fun i x hi => ?_⟩
  obtain ⟨rfl, rfl⟩ : i = 0 ∧ x = l := by
    cases i with
    | zero => simp at hi; exact ⟨rfl, hi.symm⟩
    | succ i => simp at hi
  refine ⟨w.heap.size, 0, .slice (some ⟨g, 0, none⟩) 512 512, rfl, by simp, ?_⟩
  have h := (hb.kept ((Only.refl [] w).alloc (.cells #[.slice (some ⟨g, 0, none⟩) 512 512] 27)) (by simp)).bytes 512
  rw [hl] at h
  exact h

theorem write_st {w0 w : World} {a : DA} {d : Disk} {g : Nat} {l : Sec} (at_ : Int) (h : St w0 w a d) (hb : BBlk w g l) (hl : l.length = 512) (hi : inB at_ d.size = true) (hd : d.met.off = false) :
    Calls Tryz.prog 63 #[.pointer (some ⟨a.p, 0, none⟩), .int .i64 at_, .slice (some ⟨w.heap.size, 0, none⟩) 1 1] (w.alloc (.cells #[.slice (some ⟨g, 0, none⟩) 512 512] 27))
      fun e w' => e = .returned .nilIface ∧ St w0 w' a (d.write at_ l) ∧ Only a.bl w w' := by
  have q := h.quiet ((Only.refl [] w).alloc (.cells #[.slice (some ⟨g, 0, none⟩) 512 512] 27))
  refine (Write_on a d at_ _ [l] _ q.dev hi (parts_one hb hl) (fits_one hl) (by simp [total, hl]) hd).mono ?_
  rintro e w' ⟨rfl, hd', ho⟩
  have e1 : [l].flatten = l := by simp
  rw [e1] at hd'
  exact ⟨rfl, q.step ho hd', (((Only.refl [] w).alloc _).mono (by simp)).trans ho (fun k hk => .inl hk)⟩

theorem write_off_st {w0 w : World} {a : DA} {d : Disk} {g : Nat} {l : Sec} (at_ : Int) (h : St w0 w a d) (hb : BBlk w g l) (hl : l.length = 512) (hi : inB at_ d.size = true) (hd : d.met.off = true) :
    Calls Tryz.prog 63 #[.pointer (some ⟨a.p, 0, none⟩), .int .i64 at_, .slice (some ⟨w.heap.size, 0, none⟩) 1 1] (w.alloc (.cells #[.slice (some ⟨g, 0, none⟩) 512 512] 27))
      fun e w' => e = .returned (err 3) ∧ St w0 w' a d.fall ∧ Only a.bl w w' := by
  have q := h.quiet ((Only.refl [] w).alloc (.cells #[.slice (some ⟨g, 0, none⟩) 512 512] 27))
  refine (Write_off a d at_ _ [l] _ q.dev hi (parts_one hb hl) (fits_one hl) (by simp [total, hl]) hd).mono ?_
  rintro e w' ⟨rfl, hd', ho⟩
  exact ⟨rfl, q.step ho hd', (((Only.refl [] w).alloc _).mono (by simp)).trans ho (fun k hk => .inl hk)⟩

theorem sync_st {w0 w : World} {a : DA} {d : Disk} (h : St w0 w a d) (hd : d.met.off = false) :
    Calls Tryz.prog 54 #[.pointer (some ⟨a.p, 0, none⟩)] w fun e w' => e = .returned .nilIface ∧ St w0 w' a d.sync ∧ Only a.bl w w' := by
  refine (Sync_on a d _ h.dev hd).mono ?_
  rintro e w' ⟨rfl, hd', ho⟩
  exact ⟨rfl, h.step ho hd', ho⟩

theorem sync_off_st {w0 w : World} {a : DA} {d : Disk} (h : St w0 w a d) (hd : d.met.off = true) :
    Calls Tryz.prog 54 #[.pointer (some ⟨a.p, 0, none⟩)] w fun e w' => e = .returned (err 3) ∧ St w0 w' a d.fall ∧ Only a.bl w w' := by
  refine (Sync_off a d _ h.dev hd).mono ?_
  rintro e w' ⟨rfl, hd', ho⟩
  exact ⟨rfl, h.step ho hd', ho⟩

theorem read_st {w0 w : World} {a : DA} {d : Disk} (at_ : Int) (h : St w0 w a d) (hi : inB at_ d.size = true) (hd : d.met.down = false) (l : Sec) (hl : d.get at_ = l) :
    Calls Tryz.prog 72 #[.pointer (some ⟨a.p, 0, none⟩), .int .i64 at_] w
      fun e w' => ∃ g, e = .returned (.tuple #[.slice (some ⟨g, 0, none⟩) 512 512, .nilIface]) ∧ BBlk w' g l ∧ w.heap.size ≤ g ∧ St w0 w' a d ∧ Only [] w w' := by
  refine (Read_any a d at_ _ h.dev hi hd).mono ?_
  rintro e w' ⟨g, rfl, hb, hg, ho⟩
  rw [hl] at hb
  exact ⟨g, rfl, hb, hg, h.quiet ho, ho⟩

theorem ints_one (w : World) (k : Int) (hk : (Lit.int .i64 k).wf = true) : IntsV (w.alloc (.cells #[.int .i64 k] 3)) (.slice (some ⟨w.heap.size, 0, none⟩) 1 1) [k] := by
  refine ⟨_, 1, rfl, fun i x hi => ?_⟩
  obtain ⟨rfl, rfl⟩ : i = 0 ∧ x = k := by
    cases i with
    | zero => simp at hi; exact ⟨rfl, hi.symm⟩
    | succ i => simp at hi
  exact ⟨hk, w.heap.size, 0, rfl, by simp⟩

theorem crash_st {w0 w : World} {a : DA} {d : Disk} (k : Int) (h : St w0 w a d) (hk : (Lit.int .i64 k).wf = true) :
    Calls Tryz.prog 42 #[.pointer (some ⟨a.p, 0, none⟩), .slice (some ⟨w.heap.size, 0, none⟩) 1 1] (w.alloc (.cells #[.int .i64 k] 3))
      fun e w' => e = .returned (.tuple #[]) ∧ St w0 w' a (d.crash [k]) ∧ Only a.bl w w' := by
  have q := h.quiet ((Only.refl [] w).alloc (.cells #[.int .i64 k] 3))
  refine (Crash_any a d _ [k] _ q.dev (ints_one w k hk) ?_ (by simp)).mono ?_
  · intro ad n c e _ hm
    cases e
    exact Nat.lt_irrefl _ (h.dev.lt _ hm)
  · rintro e w' ⟨rfl, hd', ho⟩
    exact ⟨rfl, q.step ho hd', (((Only.refl [] w).alloc _).mono (by simp)).trans ho (fun k hk => .inl hk)⟩

theorem new_st (size : Int) (w : World) (h0 : 1 ≤ size) (h1 : size ≤ 4096) :
    Calls Tryz.prog 14 #[.int .i64 size] w fun e w' => ∃ a : DA, e = .returned (.tuple #[.pointer (some ⟨a.p, 0, none⟩), .nilIface]) ∧ St w w' a (.fresh size) := by
  refine (New_any size w h0 h1).mono ?_
  rintro e w' ⟨a, rfl, hd, hl, ho⟩
  exact ⟨a, rfl, hd, ho, hl⟩

theorem down_st {w0 w : World} {a : DA} {d : Disk} (h : St w0 w a d) (x : Bool) (hn : d.met.down = x) : Calls Tryz.prog 38 #[.pointer (some ⟨a.p, 0, none⟩)] w fun e w' => e = .returned (.bool x) ∧ w = w' := by
  have := down_any _ _ _ _ _ _ h.dev.blk
  rw [hn] at this
  exact this

/-! ### errors side by side -/
theorem err_11 (w : World) : (binOp .eql 36 (err 1) (err 1)).run Tryz.prog w = .ok (.bool true) w := by kernel_rfl
theorem err_22 (w : World) : (binOp .eql 36 (err 2) (err 2)).run Tryz.prog w = .ok (.bool true) w := by kernel_rfl
theorem err_33 (w : World) : (binOp .eql 36 (err 3) (err 3)).run Tryz.prog w = .ok (.bool true) w := by kernel_rfl
theorem err_n33 (w : World) : (binOp .neq 36 (err 3) (err 3)).run Tryz.prog w = .ok (.bool false) w := by kernel_rfl

/-! ### strings of bytes -/
theorem str_of {w : World} {g : Nat} {l : Sec} {S : ByteArray} (hb : BBlk w g l) (hl : l.length = 512) (hS : S = strOf l) :
    (convert 27 9 (.slice (some ⟨g, 0, none⟩) 512 512)).run Tryz.prog w = .ok (.string S) w := by
  have h := run_convert_bytes_back (P := Tryz.prog) w 27 9 5 ⟨g, 0, none⟩ 512 l Tryz.underlying27 Tryz.underlying5 Tryz.underlying9 (fun j hj => by
    have : (⟨g, 0, none⟩ : Addr).add j = ⟨g, j, none⟩ := by unfold Addr.add; split <;> simp_all
    rw [this]
    exact hb.cell (List.getElem?_eq_getElem hj))
  rw [hl] at h
  rw [hS]
  exact h
/-! ### what a device holds behind a call -/
theorem write_get (d : Disk) (k i : Int) (l : Sec) : (d.write k l).get i = if i = k then l else d.get i := by
  simp only [Disk.get, Disk.write, upd]
  by_cases e : i = k <;> simp [e]
theorem sync_get (d : Disk) (i : Int) : d.sync.get i = d.get i := rfl
theorem crash_get (d : Disk) (ks : List Int) (i : Int) : (d.crash ks).get i = if i ∈ ks then d.get i else (d.old i).getD (d.get i) := by
  simp only [Disk.get, Disk.crash, back, dels]
  by_cases e : i ∈ ks
  · simp [e]
  · simp only [e, if_false]
    cases d.old i <;> simp
end Go.Proofs.YtfnedeaemjchgaaGreat
