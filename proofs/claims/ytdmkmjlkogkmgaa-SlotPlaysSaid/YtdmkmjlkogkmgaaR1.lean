/- The document's own device: what it holds, and its small functions. -/
import Derived.Test.YtdmkmjlkogkmgaaD3
namespace Go.Proofs.Ytdmkmjlkogkmgaa
open Go.RowKit Go.Maps
set_option linter.unusedSimpArgs false
set_option linter.unusedVariables false

/-- Where it lies: its struct, its three lists. -/
structure RA where
  p : Nat
  gN : Nat
  cN : Nat
  gS : Nat
  cS : Nat
  gC : Nat
  cC : Nat
def RA.bl (b : RA) : List Nat := [b.p, b.gN, b.gS, b.gC]
/-- What it holds. -/
structure Ref where
  n : Nat
  now : Nat → Sec
  syn : Nat → Sec
  chg : Nat → Bool
  steps : Int
  syncs : Int
  armed : Bool
  left : Int
  down : Bool
def Ref.cells (R : Ref) (b : RA) : Array Value := #[.slice (some ⟨b.gN, 0, none⟩) R.n b.cN, .slice (some ⟨b.gS, 0, none⟩) R.n b.cS, .slice (some ⟨b.gC, 0, none⟩) R.n b.cC, .int .i64 R.steps, .int .i64 R.syncs, .bool R.armed, .int .i64 R.left, .bool R.down]
def Ref.off (R : Ref) : Bool := R.down || (R.armed && decide (R.left < 1))
def Ref.fall (R : Ref) : Ref := { R with down := true }
def Ref.tick (R : Ref) : Ref := { R with left := wrap64 (R.left - 1), steps := wrap64 (R.steps + 1) }
def updN {α : Type} (f : Nat → α) (k : Nat) (x : α) : Nat → α := fun i => if i = k then x else f i

/-- v is a row of 512 bytes, in no block of F. -/
def RowB (w : World) (F : List Nat) (v : Value) (l : Sec) : Prop := ∃ g cap cur, v = .slice (some ⟨g, 0, none⟩) 512 cap ∧ (512 ≤ cap ∧ cap ≤ maxLen) ∧ g ∉ F ∧ l.length = 512 ∧ w.heap[g]? = some (.cells cur 5 (0, 0)) ∧ ∀ (j : Nat) (c : UInt8), l[j]? = some c → cur[j]? = some (.int .u8 c.toNat)
def Rows (w : World) (F : List Nat) (g n : Nat) (f : Nat → Sec) : Prop := ∃ cur : Array Value, w.heap[g]? = some (.cells cur 37 (0, 0)) ∧ ∀ i, i < n → ∃ v, cur[i]? = some v ∧ RowB w F v (f i)
def Bools (w : World) (g n : Nat) (f : Nat → Bool) : Prop := ∃ cur : Array Value, w.heap[g]? = some (.cells cur 4 (0, 0)) ∧ ∀ i, i < n → cur[i]? = some (.bool (f i))
structure RDev (w : World) (F : List Nat) (b : RA) (R : Ref) : Prop where
  blk : w.heap[b.p]? = some (.cells (R.cells b) 73 (0, 0))
  now : Rows w F b.gN R.n R.now
  syn : Rows w F b.gS R.n R.syn
  chg : Bools w b.gC R.n R.chg
  ne : b.gN ≠ b.gS
  hi : R.n ≤ 4096

/-- What turns is none of the rows: it is among F, or no row of bytes at all. -/
def Foreign (w : World) (F S : List Nat) : Prop := ∀ k ∈ S, k ∈ F ∨ ∀ cur, w.heap[k]? ≠ some (.cells cur 5 (0, 0))
theorem foreign_nil (w : World) (F : List Nat) : Foreign w F [] := fun _ h => by simp at h

section
variable {w w' : World} {F S : List Nat} {v : Value} {l : Sec}
theorem RowB.kept (h : RowB w F v l) (ho : Only S w w') (hs : Foreign w F S) : RowB w' F v l := by
  obtain ⟨g, cap, cur, e, hcap, hf, hl, hg, hc⟩ := h
  refine ⟨g, cap, cur, e, hcap, hf, hl, ho.heap hg (fun hm => ?_), hc⟩
  rcases hs g hm with h1 | h1
  · exact hf h1
  · exact h1 _ hg
theorem RowB.bytes (h : RowB w F v l) : Bytes w v l := by
  obtain ⟨g, cap, cur, rfl, hcap, hf, hl, hg, hc⟩ := h
  exact ⟨_, cap, by rw [hl], fun i c hi => ⟨g, 0, rfl, by rw [Nat.zero_add, cell_at i hg, hc i c hi]⟩⟩
theorem RowB.fit (h : RowB w F v l) : Fit v := fun a n c e => by
  obtain ⟨g, cap, cur, rfl, hcap, _⟩ := h
  cases e
  exact hcap
theorem RowB.shape (h : RowB w F v l) : ∃ g cap, v = .slice (some ⟨g, 0, none⟩) 512 cap := let ⟨g, cap, _, e, _⟩ := h; ⟨g, cap, e⟩
theorem RowB.len (h : RowB w F v l) : l.length = 512 := let ⟨_, _, _, _, _, _, e, _⟩ := h; e
theorem RowB.fewer {F' : List Nat} (h : RowB w F v l) (hs : ∀ k ∈ F', k ∈ F) : RowB w F' v l := by
  obtain ⟨g, cap, cur, e, hcap, hf, r⟩ := h
  exact ⟨g, cap, cur, e, hcap, fun hm => hf (hs g hm), r⟩
theorem RowB.more {F' : List Nat} (h : RowB w F v l) (hs : ∀ k ∈ F', k ∈ F ∨ w.heap.size ≤ k) : RowB w F' v l := by
  obtain ⟨g, cap, cur, e, hcap, hf, hl, hg, hc⟩ := h
  refine ⟨g, cap, cur, e, hcap, fun hm => ?_, hl, hg, hc⟩
  rcases hs g hm with h1 | h1
  · exact hf h1
  · have := lt_of_heap hg
    omega
theorem Rows.kept {g n : Nat} {f : Nat → Sec} (h : Rows w F g n f) (ho : Only S w w') (hs : Foreign w F S) (hg : g ∉ S) : Rows w' F g n f := by
  obtain ⟨cur, h1, h2⟩ := h
  refine ⟨cur, ho.heap h1 hg, fun i hi => ?_⟩
  obtain ⟨v, hv, hr⟩ := h2 i hi
  exact ⟨v, hv, hr.kept ho hs⟩
theorem Bools.kept {g n : Nat} {f : Nat → Bool} (h : Bools w g n f) (ho : Only S w w') (hg : g ∉ S) : Bools w' g n f := by
  obtain ⟨cur, h1, h2⟩ := h
  exact ⟨cur, ho.heap h1 hg, h2⟩
theorem Rows.imp {F' : List Nat} {g n : Nat} {f : Nat → Sec} (h : Rows w F g n f) (hs : ∀ v l, RowB w F v l → RowB w F' v l) : Rows w F' g n f := by
  obtain ⟨cur, h1, h2⟩ := h
  exact ⟨cur, h1, fun i hi => let ⟨v, hv, hr⟩ := h2 i hi; ⟨v, hv, hs v _ hr⟩⟩
/-- One cell of a list is another row. -/
theorem Rows.set {g n k : Nat} {f : Nat → Sec} (h : Rows w F g n f) (hv : RowB w F v l) : Rows (w.setCell ⟨g, k, none⟩ v) F g n (updN f k l) := by
  obtain ⟨cur, h1, h2⟩ := h
  have ho : Only [g] w (w.setCell ⟨g, k, none⟩ v) := (Only.refl [g] w).setCell (p := ⟨g, k, none⟩) (by simp) _
  have hs : Foreign w F [g] := fun x hx => .inr fun cur' e => by
    simp at hx
    subst hx
    rw [h1] at e
    injection e with e
    injection e with _ e _
    exact absurd e (by decide)
  refine ⟨_, heap_cell _ h1, fun i hi => ?_⟩
  obtain ⟨u, hu, hr⟩ := h2 i hi
  by_cases e : k = i
  · subst e
    refine ⟨v, ?_, by simpa [updN] using hv.kept ho hs⟩
    rw [Array.getElem?_setIfInBounds, if_pos rfl, if_pos (Array.getElem?_eq_some_iff.1 hu).1]
  · refine ⟨u, ?_, ?_⟩
    · rw [Array.getElem?_setIfInBounds, if_neg e]
      exact hu
    · simpa [updN, show i ≠ k from fun x => e x.symm] using hr.kept ho hs
theorem Bools.set {g n k : Nat} {f : Nat → Bool} {x : Bool} (h : Bools w g n f) : Bools (w.setCell ⟨g, k, none⟩ (.bool x)) g n (updN f k x) := by
  obtain ⟨cur, h1, h2⟩ := h
  refine ⟨_, heap_cell _ h1, fun i hi => ?_⟩
  have hu := h2 i hi
  rw [Array.getElem?_setIfInBounds]
  by_cases e : k = i
  · subst e
    rw [if_pos rfl, if_pos (Array.getElem?_eq_some_iff.1 hu).1]
    simp [updN]
  · rw [if_neg e, hu]
    simp [updN, show i ≠ k from fun x => e x.symm]
end

section
variable {w w' : World} {F S : List Nat} {b : RA} {R : Ref} (h : RDev w F b R)
include h
theorem RDev.c0 : w.cell? ⟨b.p, 0, none⟩ = some (.slice (some ⟨b.gN, 0, none⟩) R.n b.cN) := (cell_at 0 h.blk).trans rfl
theorem RDev.c1 : w.cell? ⟨b.p, 1, none⟩ = some (.slice (some ⟨b.gS, 0, none⟩) R.n b.cS) := (cell_at 1 h.blk).trans rfl
theorem RDev.c2 : w.cell? ⟨b.p, 2, none⟩ = some (.slice (some ⟨b.gC, 0, none⟩) R.n b.cC) := (cell_at 2 h.blk).trans rfl
theorem RDev.c3 : w.cell? ⟨b.p, 3, none⟩ = some (.int .i64 R.steps) := (cell_at 3 h.blk).trans rfl
theorem RDev.c4 : w.cell? ⟨b.p, 4, none⟩ = some (.int .i64 R.syncs) := (cell_at 4 h.blk).trans rfl
theorem RDev.c5 : w.cell? ⟨b.p, 5, none⟩ = some (.bool R.armed) := (cell_at 5 h.blk).trans rfl
theorem RDev.c6 : w.cell? ⟨b.p, 6, none⟩ = some (.int .i64 R.left) := (cell_at 6 h.blk).trans rfl
theorem RDev.c7 : w.cell? ⟨b.p, 7, none⟩ = some (.bool R.down) := (cell_at 7 h.blk).trans rfl
theorem RDev.free (i : Nat) : w.frozen? ⟨b.p, i, none⟩ = false := free_at i h.blk
theorem RDev.row {i : Nat} (hi : i < R.n) : ∃ v, w.cell? ⟨b.gN, i, none⟩ = some v ∧ RowB w F v (R.now i) := by
  obtain ⟨cur, h1, h2⟩ := h.now
  obtain ⟨v, hv, hr⟩ := h2 i hi
  exact ⟨v, by rw [cell_at i h1, hv], hr⟩
theorem RDev.old {i : Nat} (hi : i < R.n) : ∃ v, w.cell? ⟨b.gS, i, none⟩ = some v ∧ RowB w F v (R.syn i) := by
  obtain ⟨cur, h1, h2⟩ := h.syn
  obtain ⟨v, hv, hr⟩ := h2 i hi
  exact ⟨v, by rw [cell_at i h1, hv], hr⟩
theorem RDev.bit {i : Nat} (hi : i < R.n) : w.cell? ⟨b.gC, i, none⟩ = some (.bool (R.chg i)) := by
  obtain ⟨cur, h1, h2⟩ := h.chg
  rw [cell_at i h1, h2 i hi]
theorem RDev.freeN (i : Nat) : w.frozen? ⟨b.gN, i, none⟩ = false := let ⟨_, h1, _⟩ := h.now; free_at i h1
theorem RDev.freeS (i : Nat) : w.frozen? ⟨b.gS, i, none⟩ = false := let ⟨_, h1, _⟩ := h.syn; free_at i h1
theorem RDev.freeC (i : Nat) : w.frozen? ⟨b.gC, i, none⟩ = false := let ⟨_, h1, _⟩ := h.chg; free_at i h1
/-- Which block has which type. -/
theorem RDev.types : ∃ c1 c2 c3 c4, w.heap[b.p]? = some (.cells c1 73 (0, 0)) ∧ w.heap[b.gN]? = some (.cells c2 37 (0, 0)) ∧ w.heap[b.gS]? = some (.cells c3 37 (0, 0)) ∧ w.heap[b.gC]? = some (.cells c4 4 (0, 0)) := by
  obtain ⟨c2, h2, _⟩ := h.now
  obtain ⟨c3, h3, _⟩ := h.syn
  obtain ⟨c4, h4, _⟩ := h.chg
  exact ⟨_, c2, c3, c4, h.blk, h2, h3, h4⟩
theorem RDev.kept (ho : Only S w w') (hs : Foreign w F S) (hb : ∀ k ∈ b.bl, k ∉ S) : RDev w' F b R :=
  ⟨ho.heap h.blk (hb _ (by simp [RA.bl])), h.now.kept ho hs (hb _ (by simp [RA.bl])), h.syn.kept ho hs (hb _ (by simp [RA.bl])), h.chg.kept ho (hb _ (by simp [RA.bl])), h.ne, h.hi⟩
theorem RDev.quiet (ho : Only [] w w') : RDev w' F b R := h.kept ho (foreign_nil _ _) (by simp)
theorem RDev.imp {F' : List Nat} (hs : ∀ v l, RowB w F v l → RowB w F' v l) : RDev w F' b R := ⟨h.blk, h.now.imp hs, h.syn.imp hs, h.chg, h.ne, h.hi⟩
theorem RDev.lt : ∀ k ∈ b.bl, k < w.heap.size := by
  obtain ⟨c1, c2, c3, c4, h1, h2, h3, h4⟩ := h.types
  intro k hk
  simp only [RA.bl, List.mem_cons, List.not_mem_nil, or_false] at hk
  rcases hk with rfl | rfl | rfl | rfl
  · exact lt_of_heap h1
  · exact lt_of_heap h2
  · exact lt_of_heap h3
  · exact lt_of_heap h4
end
theorem type_ne {w : World} {x y : Nat} {c1 c2 : Array Value} {t u : TypeId} {f1 f2 : Nat × Nat} (h1 : w.heap[x]? = some (.cells c1 t f1)) (h2 : w.heap[y]? = some (.cells c2 u f2)) (ht : t ≠ u) : x ≠ y := by
  intro e
  subst e
  rw [h1] at h2
  cases h2
  exact ht rfl
/-- Its own blocks are no rows of bytes. -/
theorem RDev.own_foreign {w : World} {F : List Nat} {b : RA} {R : Ref} (h : RDev w F b R) {S : List Nat} (hs : ∀ k ∈ S, k ∈ b.bl) : Foreign w F S := by
  obtain ⟨c1, c2, c3, c4, h1, h2, h3, h4⟩ := h.types
  intro k hk
  have hb := hs k hk
  simp only [RA.bl, List.mem_cons, List.not_mem_nil, or_false] at hb
  refine .inr fun cur e => ?_
  rcases hb with rfl | rfl | rfl | rfl
  · exact type_ne h1 e (by decide) rfl
  · exact type_ne h2 e (by decide) rfl
  · exact type_ne h3 e (by decide) rfl
  · exact type_ne h4 e (by decide) rfl
/-- The struct has turned, and nothing else. -/
theorem RDev.turn {w w' : World} {F : List Nat} {b : RA} {R R' : Ref} (h : RDev w F b R) (ho : Only [b.p] w w') (hb : w'.heap[b.p]? = some (.cells (R'.cells b) 73 (0, 0))) (e1 : R'.n = R.n) (e2 : R'.now = R.now) (e3 : R'.syn = R.syn) (e4 : R'.chg = R.chg) : RDev w' F b R' := by
  obtain ⟨c1, c2, c3, c4, h1, h2, h3, h4⟩ := h.types
  have hs := h.own_foreign (S := [b.p]) (by simp [RA.bl])
  refine ⟨hb, ?_, ?_, ?_, h.ne, e1 ▸ h.hi⟩
  · rw [e1, e2]
    exact h.now.kept ho hs (by simpa using type_ne h2 h1 (by decide))
  · rw [e1, e3]
    exact h.syn.kept ho hs (by simpa using type_ne h3 h1 (by decide))
  · rw [e1, e4]
    exact h.chg.kept ho (by simpa using type_ne h4 h1 (by decide))

theorem in_ref {w : World} {F : List Nat} {b : RA} {R : Ref} (at_ : Int) (h : RDev w F b R) :
    Calls Try.prog 53 #[.pointer (some ⟨b.p, 0, none⟩), .int .i64 at_] w fun e w' => e = .returned (.bool (decide (0 ≤ at_) && decide (at_ < (R.n : Int)))) ∧ w = w' := by
  have c0 := h.c0
  clear h
  by_cases h0 : 0 ≤ at_
  · go_enter Try.func53, Try.ntmps53
    go_wp2
    go_ret
    exact ⟨by simp [h0], rfl⟩
  · have h1 : at_ < 0 := by omega
    go_enter Try.func53, Try.ntmps53
    go_wp2
    go_ret
    exact ⟨by simp; omega, rfl⟩
end Go.Proofs.Ytdmkmjlkogkmgaa
