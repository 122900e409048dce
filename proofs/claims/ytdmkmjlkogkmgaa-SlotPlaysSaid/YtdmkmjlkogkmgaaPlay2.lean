/- One call by both devices: Sync, Arm, Read. -/
import Derived.Test.YtdmkmjlkogkmgaaPlay1
namespace Go.Proofs.Ytdmkmjlkogkmgaa
open Go.RowKit Go.Maps
set_option linter.unusedSimpArgs false
set_option linter.unusedVariables false

theorem dev_foreign {w : World} {a : DA} {d : Disk} (F : List Nat) (h : Dev w a d) : Foreign w F a.bl := by
  intro k hk
  refine .inr fun cur e => ?_
  simp only [DA.bl, List.mem_cons, List.not_mem_nil, or_false] at hk
  rcases hk with rfl | rfl | rfl
  · exact type_ne h.blk e (by decide) rfl
  · exact h.now.ne e rfl
  · exact h.old.ne e rfl
theorem dev_ref {w : World} {F : List Nat} {a : DA} {b : RA} {d : Disk} {R : Ref} (h : Dev w a d) (r : RDev w F b R) : ∀ k ∈ b.bl, k ∉ a.bl := by
  obtain ⟨c1, c2, c3, c4, h1, h2, h3, h4⟩ := r.types
  have key : ∀ (k : Nat) (c : Array Value) (t : TypeId), w.heap[k]? = some (.cells c t (0, 0)) → t ≠ 70 → k ∉ a.bl := fun k c t hk ht hm => by
    simp only [DA.bl, List.mem_cons, List.not_mem_nil, or_false] at hm
    rcases hm with rfl | rfl | rfl
    · exact type_ne hk h.blk ht rfl
    · exact h.now.ne hk rfl
    · exact h.old.ne hk rfl
  intro k hk
  simp only [RA.bl, List.mem_cons, List.not_mem_nil, or_false] at hk
  rcases hk with rfl | rfl | rfl | rfl
  · exact key _ _ _ h1 (by decide)
  · exact key _ _ _ h2 (by decide)
  · exact key _ _ _ h3 (by decide)
  · exact key _ _ _ h4 (by decide)

/-- Both devices, made since w0. -/
structure Pair (w0 w : World) (F : List Nat) (a : DA) (b : RA) (D : Disk) (R : Ref) : Prop where
  st : St w0 w a D
  ref : RDev w F b R
  newb : ∀ k ∈ b.bl, w0.heap.size ≤ k

section
variable {w0 w w' : World} {F : List Nat} {a : DA} {b : RA} {D D' : Disk} {R R' : Ref} (h : Pair w0 w F a b D R)
include h
theorem Pair.quiet (ho : Only [] w w') : Pair w0 w' F a b D R := ⟨h.st.quiet ho, h.ref.quiet ho, h.newb⟩
theorem Pair.setA (ho : Only a.bl w w') (hd : Dev w' a D') : Pair w0 w' F a b D' R := ⟨h.st.step ho hd, h.ref.kept ho (dev_foreign F h.st.dev) (dev_ref h.st.dev h.ref), h.newb⟩
theorem Pair.setB (ho : Only b.bl w w') (hr : RDev w' F b R') : Pair w0 w' F a b D R' :=
  ⟨⟨h.st.dev.kept ho (dev_ref h.st.dev h.ref), h.st.only.trans ho (fun k hk => .inr (h.newb k hk)), h.st.new⟩, hr, h.newb⟩
theorem Pair.over {g : Nat} (ho : Only [g] w w') (hg : w0.heap.size ≤ g) (hF : g ∈ F) (ha : g ∉ a.bl) (hb : g ∉ b.bl) : Pair w0 w' F a b D R :=
  ⟨⟨h.st.dev.kept ho (by simpa using ha), h.st.only.trans ho (by simp; omega), h.st.new⟩, h.ref.kept ho (fun k hk => .inl (by simp at hk; subst hk; exact hF)) (fun k hk e => by simp at e; subst e; exact hb hk), h.newb⟩
theorem Pair.drop : Pair w0 w [] a b D R := ⟨h.st, h.ref.imp (fun v l hr => hr.fewer (by simp)), h.newb⟩
theorem Pair.fresh {F' : List Nat} (hs : ∀ k ∈ F', k ∈ F ∨ w.heap.size ≤ k) : Pair w0 w F' a b D R := ⟨h.st, h.ref.imp (fun v l hr => hr.more hs), h.newb⟩
/-- A block of cells of another type is neither's. -/
theorem Pair.apart {g : Nat} {c : Array Value} {t : TypeId} {fr : Nat × Nat} (hg : w.heap[g]? = some (.cells c t fr)) (h1 : t ≠ 70) (h2 : t ≠ 73) (h3 : t ≠ 37) (h4 : t ≠ 4) : g ∉ a.bl ∧ g ∉ b.bl := by
  refine ⟨h.st.apart' hg h1, fun hm => ?_⟩
  obtain ⟨c1, c2, c3, c4, k1, k2, k3, k4⟩ := h.ref.types
  simp only [RA.bl, List.mem_cons, List.not_mem_nil, or_false] at hm
  rcases hm with rfl | rfl | rfl | rfl
  · exact type_ne hg k1 h2 rfl
  · exact type_ne hg k2 h3 rfl
  · exact type_ne hg k3 h3 rfl
  · exact type_ne hg k4 h4 rfl
/-- An argument's bytes lie apart. -/
theorem Pair.off {v : Value} {l : Sec} (hv : Bytes w0 v l) : Off v a.bl ∧ Off v b.bl := by
  have hlt : ∀ ad n c, v = .slice (some ad) n c → 0 < n → ad.block < w0.heap.size := fun ad n c e hn => by
    obtain ⟨a', cap, e2, hc⟩ := hv
    rw [e2] at e
    cases e
    obtain ⟨b', off, e3, hcell⟩ := hc 0 l[0] (List.getElem?_eq_getElem hn)
    cases e3
    exact World.block_lt_of_cell? _ _ hcell
  exact ⟨fun ad n c e hn hm => by have := hlt ad n c e hn; have := h.st.new _ hm; omega, fun ad n c e hn hm => by have := hlt ad n c e hn; have := h.newb _ hm; omega⟩
theorem Pair.offI {v : Value} {l : List Int} (hv : IntsV w0 v l) : Off v a.bl ∧ Off v b.bl := by
  have hlt : ∀ ad n c, v = .slice (some ad) n c → 0 < n → ad.block < w0.heap.size := fun ad n c e hn => by
    obtain ⟨a', cap, e2, hc⟩ := hv
    rw [e2] at e
    cases e
    obtain ⟨_, b', off, e3, hcell⟩ := hc 0 l[0] (List.getElem?_eq_getElem hn)
    cases e3
    exact World.block_lt_of_cell? _ _ hcell
  exact ⟨fun ad n c e hn hm => by have := hlt ad n c e hn; have := h.st.new _ hm; omega, fun ad n c e hn hm => by have := hlt ad n c e hn; have := h.newb _ hm; omega⟩
end

/-- What the document's device shows of itself. -/
theorem Pair.shows {w0 w : World} {F : List Nat} {a : DA} {b : RA} {D : Disk} {R : Ref} (h : Pair w0 w F a b D R) :
    w.cell? ⟨b.p, 0, none⟩ = some (.slice (some ⟨b.gN, 0, none⟩) R.n b.cN) ∧ w.cell? ⟨b.p, 3, none⟩ = some (.int .i64 R.steps) ∧ w.cell? ⟨b.p, 4, none⟩ = some (.int .i64 R.syncs) ∧ w.cell? ⟨b.p, 7, none⟩ = some (.bool R.down) :=
  ⟨h.ref.c0, h.ref.c3, h.ref.c4, h.ref.c7⟩

theorem Match.fresh (n : Nat) : Match (.fresh n) (.fresh n) :=
  ⟨rfl, fun _ _ => rfl, fun _ _ => rfl, fun _ _ => rfl, fun k hk => by simp [Disk.fresh] at hk, rfl, rfl, rfl, rfl, fun h => by simp [Ref.fresh] at h⟩

/-- Both when they are new. -/
theorem Pair.fresh' {w0 w1 w2 : World} {a : DA} {b : RA} {n : Nat} (s : St w0 w1 a (.fresh n)) (r : RDev w2 [] b (.fresh n)) (hb : ∀ k ∈ b.bl, w1.heap.size ≤ k) (ho : Only [] w1 w2) : Pair w0 w2 [] a b (.fresh n) (.fresh n) :=
  ⟨s.quiet ho, r, fun k hk => Nat.le_trans s.only.size (hb k hk)⟩


/-- The frame of one call: the argument's cells in a block of their own. -/
abbrev opCells (kind at_ n : Int) (bv kv : Value) : Array Value := #[.int .i64 kind, .int .i64 at_, .int .i64 n, bv, kv]
def PlayPost (w0 : World) (a : DA) (b : RA) (e : Ending) (w' : World) : Prop := e = .returned (.bool true) ∧ ∃ D R, Pair w0 w' [] a b D R ∧ Match D R

section
variable {w0 w : World} {a : DA} {b : RA} {D : Disk} {R : Ref} {at_ n : Int} {bv kv : Value}

end
end Go.Proofs.Ytdmkmjlkogkmgaa
