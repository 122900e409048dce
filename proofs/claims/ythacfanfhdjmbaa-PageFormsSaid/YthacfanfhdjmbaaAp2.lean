/- Apart: whatever rows of their own it is given, it answers true. -/
import Derived.Test.YthacfanfhdjmbaaAp1
namespace Go.Proofs.Ythacfanfhdjmbaa
open Go.RowKit Go.Maps
set_option linter.unusedSimpArgs false
set_option linter.unusedVariables false

theorem own_ne {w : World} {base n m g : Nat} {v l : Value} {xs : List Value} (h : w.ownsRow base 23 1 v n xs) (hr : Row w l m) (hg : l.ownBlock = some g) : v.ownBlock ≠ some g := by
  intro e
  rcases h.2 with ⟨rfl, _⟩ | ⟨g1, cap, cur, rfl, _, h1, _⟩
  · cases e
  · cases e
    rcases hr with ⟨e2, _⟩ | ⟨g2, cap2, cur2, e2, _, _, h2, _⟩
    · rw [e2] at hg; cases hg
    · rw [e2] at hg
      cases hg
      rw [h1] at h2
      injection h2 with h2
      injection h2 with _ h2 _
      exact absurd h2 (by decide)

/-- The rows that have grown so far. -/
structure Out (w0 : World) (b0 : Nat) (w : World) (rs gs : List Value) (ns : Nat → Nat) : Prop where
  row : ∀ (i : Nat) (r' : Value), gs[i]? = some r' → Row w r' (ns i + 12)
  mark : ∀ (i : Nat) (r' : Value), gs[i]? = some r' → Marked w r' i (ns i + 12)
  src : ∀ (i : Nat) (r' : Value), gs[i]? = some r' → (∃ r : Value, rs[i]? = some r ∧ r'.ownBlock = r.ownBlock) ∨ ∃ g, r'.ownBlock = some g ∧ w0.heap.size ≤ g ∧ g < b0

/-- The row that is growing. -/
structure Cur (w : World) (b0 : Nat) (r l : Value) (m k : Nat) : Prop where
  row : Row w l m
  mark : Marked w l k m
  src : l.ownBlock = r.ownBlock ∨ ∃ g, l.ownBlock = some g ∧ b0 ≤ g

section
variable {w0 w w' : World} {b0 L k m g cap : Nat} {lcs : Array Value} {rs gs : List Value} {ns : Nat → Nat} {r l : Value} {c : Int}

theorem Out.nil : Out w0 b0 w rs [] ns := ⟨fun i r' h => by simp at h, fun i r' h => by simp at h, fun i r' h => by simp at h⟩
theorem Out.kept {S : List Nat} (h : Out w0 b0 w rs gs ns) (ho : Only S w w') (hs : ∀ g ∈ S, ∀ (i : Nat) (r' : Value), gs[i]? = some r' → Value.ownBlock r' ≠ some g) : Out w0 b0 w' rs gs ns :=
  ⟨fun i r' hi => (h.row i r' hi).kept ho (fun g hg => hs g hg i r' hi), fun i r' hi => (h.mark i r' hi).kept ho (fun g hg => hs g hg i r' hi), h.src⟩
theorem Out.mono {b1 : Nat} (h : Out w0 b0 w rs gs ns) (hb : b0 ≤ b1) : Out w0 b1 w rs gs ns :=
  ⟨h.row, h.mark, fun i r' hi => (h.src i r' hi).imp id fun ⟨g, h1, h2, h3⟩ => ⟨g, h1, h2, by omega⟩⟩
theorem Out.more (h : Out w0 b0 w rs gs ns) (hk : rs[gs.length]? = some r) (hc : Cur w b0 r l (ns gs.length + 12) gs.length) (h0 : w0.heap.size ≤ b0) : Out w0 w.heap.size w rs (gs ++ [l]) ns := by
  have hcase : ∀ (i : Nat) (r' : Value), (gs ++ [l])[i]? = some r' → gs[i]? = some r' ∨ (i = gs.length ∧ r' = l) := fun i r' hi => by
    rcases Nat.lt_trichotomy i gs.length with h1 | h1 | h1
    · left
      rwa [List.getElem?_append_left h1] at hi
    · right
      subst h1
      simp at hi
      exact ⟨rfl, hi.symm⟩
    · rw [List.getElem?_append_right (by omega)] at hi
      have : i - gs.length = (i - gs.length - 1) + 1 := by omega
      rw [this] at hi
      simp at hi
  refine ⟨fun i r' hi => ?_, fun i r' hi => ?_, fun i r' hi => ?_⟩
  · rcases hcase i r' hi with h1 | ⟨rfl, rfl⟩
    · exact h.row i r' h1
    · exact hc.row
  · rcases hcase i r' hi with h1 | ⟨rfl, rfl⟩
    · exact h.mark i r' h1
    · exact hc.mark
  · rcases hcase i r' hi with h1 | ⟨rfl, rfl⟩
    · rcases h.src i r' h1 with h2 | ⟨g, h2, h3, _⟩
      · exact .inl h2
      · exact .inr ⟨g, h2, h3, (h.row i r' h1).lt h2⟩
    · rcases hc.src with h2 | ⟨g, h2, h3⟩
      · exact .inl ⟨r, hk, h2⟩
      · exact .inr ⟨g, h2, by omega, hc.row.lt h2⟩

theorem Cur.quiet (h : Cur w b0 r l m k) (ho : Only [] w w') : Cur w' b0 r l m k := ⟨h.row.kept ho (by simp), h.mark.kept ho (by simp), h.src⟩
theorem Cur.grow (h : Cur w b0 r l m k) (hg : Grew w l m c g cap w') (hc : markV k m = .int .u8 c) (hb : b0 ≤ w.heap.size) : Cur w' b0 r (.slice (some ⟨g, 0, none⟩) (m + 1) cap) (m + 1) k := by
  rcases hg with ⟨rfl, hcap, rfl⟩ | ⟨h1, h2, h3, h4, h5⟩
  · rcases h.row with ⟨e, _⟩ | ⟨g', cap', cur, e, k1, k2, k3, k4, k5⟩
    · cases e
    · cases e
      refine ⟨.inr ⟨g, cap, _, rfl, hcap, k2, heap_cell _ k3, by simpa using k4, fun j hj => ?_⟩, fun g' n' cap' e j hj => ?_, h.src⟩
      · rw [Array.getElem?_setIfInBounds]
        by_cases e : m = j
        · rw [if_pos e, if_pos (by omega)]
          exact ⟨_, rfl⟩
        · rw [if_neg e]
          exact k5 j (by omega)
      · cases e
        by_cases e : m = j
        · subst e
          rw [cell_at m (heap_cell (i := m) _ k3), Array.getElem?_setIfInBounds, if_pos rfl, if_pos (by omega), hc]
        · rw [World.cell?_setCell_other _ _ _ _ (fun e4 => e (by cases e4; rfl))]
          exact h.mark g _ _ rfl j (by omega)
  · refine ⟨h3, fun g' n' cap' e j hj => ?_, .inr ⟨g, rfl, by omega⟩⟩
    cases e
    by_cases e : m = j
    · subst e
      rw [h4, hc]
    · rcases h.row with ⟨rfl, rfl⟩ | ⟨b, capb, cur, rfl, _⟩
      · omega
      · rw [h5 b _ _ rfl j (by omega)]
        exact h.mark b _ _ rfl j (by omega)

/-- In whose block the growing row's byte was set. -/
theorem Cur.whose (h : Cur w b0 r l m k) (hl : l.ownBlock = some g) : r.ownBlock = some g ∨ b0 ≤ g := by
  rcases h.src with h1 | ⟨g', h1, h2⟩
  · exact .inl (by rw [← h1, hl])
  · rw [hl] at h1
    cases h1
    exact .inr h2

theorem Sheet.grow (hal : Alone rs) (h : Sheet w0 w L lcs rs ns ns) (hk : rs[k]? = some r) (hc : Cur w b0 r l m k) (hm : ns k ≤ m) (h0 : w0.heap.size ≤ b0) (hL : L < w0.heap.size) (hold : ∀ (i g : Nat) (r : Value), rs[i]? = some r → r.ownBlock = some g → g < w0.heap.size)
    (hg : Grew w l m c g cap w') : Sheet w0 w' L lcs rs ns ns := by
  rcases hg with ⟨rfl, hcap, rfl⟩ | ⟨h1, h2, h3, h4, h5⟩
  · have hq : Only [g] w (w.setCell ⟨g, m, none⟩ (.int .u8 c)) := (Only.refl [g] w).setCell (p := ⟨g, m, none⟩) (by simp) _
    rcases hc.whose (g := g) rfl with hw | hw
    · refine ⟨hq.heap h.tab (by simpa using h.ne hk hw), fun i r hi => (h.row i r hi).set, fun i r hi => (h.mark i r hi).behind ?_, h.only.trans hq (fun x hx => .inl (mem_owns.2 ⟨k, _, hk, by simp at hx; rw [hx]; exact hw⟩))⟩
      by_cases e : i = k
      · subst e
        exact .inr hm
      · exact .inl fun e2 => e (hal i k r _ g hi hk e2 hw)
    · exact h.far hq (by omega) hL (fun i r hi e => by have := hold i g r hi e; omega)
  · exact h.quiet h2

theorem Out.grow (hal : Alone rs) (h : Out w0 b0 w rs gs ns) (hk : rs[k]? = some r) (hgs : gs.length = k) (hc : Cur w b0 r l m k) (h0 : w0.heap.size ≤ b0) (hold : ∀ (i g : Nat) (r : Value), rs[i]? = some r → r.ownBlock = some g → g < w0.heap.size)
    (hg : Grew w l m c g cap w') : Out w0 b0 w' rs gs ns := by
  rcases hg with ⟨rfl, hcap, rfl⟩ | ⟨h1, h2, h3, h4, h5⟩
  · have hq : Only [g] w (w.setCell ⟨g, m, none⟩ (.int .u8 c)) := (Only.refl [g] w).setCell (p := ⟨g, m, none⟩) (by simp) _
    refine h.kept hq (fun x hx i r' hi e => ?_)
    simp at hx
    subst hx
    have hik : i < k := hgs ▸ (List.getElem?_eq_some_iff.1 hi).1
    rcases hc.whose (g := x) rfl with hw | hw
    · rcases h.src i r' hi with ⟨r2, h1, h2⟩ | ⟨g2, h1, h2, h3⟩
      · have := hal i k r2 r x h1 hk (by rw [← h2, e]) hw
        omega
      · rw [e] at h1
        cases h1
        have := hold k x r hk hw
        omega
    · rcases h.src i r' hi with ⟨r2, h1, h2⟩ | ⟨g2, h1, h2, h3⟩
      · have := hold i x r2 h1 (by rw [← h2, e])
        omega
      · rw [e] at h1
        cases h1
        omega
  · exact h.kept h2 (by simp)
theorem own_grow {base n : Nat} {v : Value} (h : w.ownsRow base 23 1 v n gs) (hc : Cur w b0 r l m k) (hg : Grew w l m c g cap w') : w'.ownsRow base 23 1 v n gs := by
  rcases hg with ⟨rfl, hcap, rfl⟩ | ⟨h1, h2, h3, h4, h5⟩
  · exact own_kept h ((Only.refl [g] w).setCell (p := ⟨g, m, none⟩) (by simp) _) (fun x hx => by simp at hx; subst hx; exact own_ne h hc.row rfl)
  · exact own_kept h h2 (by simp)
theorem Grew.size_le (hg : Grew w l m c g cap w') : w.heap.size ≤ w'.heap.size := by
  rcases hg with ⟨rfl, hcap, rfl⟩ | ⟨h1, h2, h3, h4, h5⟩
  · rw [heap_slot]
    exact Nat.le_refl _
  · exact h2.size
end

theorem info_rows : (Try.prog.info? 23).map (fun i => (i.zero, i.size, i.bytes)) = some (some (.slice none 0 0), 1, 24) := by kernel_rfl

section
variable {w : World} {ops : Array Oper} {rest : List Oper} {o : Oper} {a : Act} {Q : Exit → Act → World → Prop}
theorem wpList_append_rows (hgd : o.guard = none) (s x : Operand) (ho : o.op = .call { callee := .builtin .append, args := #[s, x], argTypes := #[41, 41] })
    (base : Nat) (v : Value) (xs : List Value) (hs : a.eval s = v) (hown : w.ownsRow base 23 1 v xs.length xs) (bx : Nat) (hx : a.eval x = .slice (some ⟨bx, 0, none⟩) 1 1) (l : Value) (hk : w.cell? ⟨bx, 0, none⟩ = some l) (hl : l.oneCell' = true) (hn : xs.length ≤ 4096) (hb : base ≤ w.heap.size)
    (h : ∀ g cap w', w'.ownsRow base 23 1 (.slice (some ⟨g, 0, none⟩) (xs.length + 1) cap) (xs ++ [l]).length (xs ++ [l]) → Only v.ownBlock.toList w w' → wpList Try.prog ops Q rest (a.put o.dst (.slice (some ⟨g, 0, none⟩) (xs.length + 1) cap)) w') : wpList Try.prog ops Q (o :: rest) a w := by
  obtain ⟨i, hi, hz⟩ := Option.map_eq_some_iff.1 info_rows
  simp only [Prod.mk.injEq] at hz
  obtain ⟨z1, z2, z3⟩ := hz
  refine wpList_append_lies _ hgd s x 41 ho base 23 i (.slice none 0 0) 1 24 Try.underlying41 hi z1 z2 z3 rfl (by omega) v xs.length xs hs hown ⟨bx, 0, none⟩ 1 1 [l] hx rfl ?_ (by simpa using hl) (by omega) (by unfold maxLen; omega) (by omega) hb w.heap.size rfl ?_
  · intro j u hj
    cases j with
    | zero =>
      simp at hj
      subst hj
      have : (⟨bx, 0, none⟩ : Addr).add 0 = ⟨bx, 0, none⟩ := by simp [Addr.add]
      rw [this]
      exact hk
    | succ j => simp at hj
  · intro g cap w' h1 h2 _ _
    refine h g cap w' ?_ (Only.of_grown h2)
    rw [List.length_append]
    exact h1
end
end Go.Proofs.Ythacfanfhdjmbaa
