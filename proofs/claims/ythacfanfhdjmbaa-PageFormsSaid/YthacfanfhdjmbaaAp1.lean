/- Lists of rows that are marked, and rows that grow by a byte. -/
import Derived.Test.YthacfanfhdjmbaaB2
namespace Go.Proofs.Ythacfanfhdjmbaa
open Go.RowKit Go.Maps
set_option linter.unusedSimpArgs false
set_option linter.unusedVariables false

/-- The mark of list k at place j. -/
def markV (k j : Nat) : Value := .int .u8 (IntKind.u8.wrap (31 * (k : Int) + 7 * (j : Int) + 1))
/-- The first f bytes of v have k's marks. -/
def Marked (w : World) (v : Value) (k f : Nat) : Prop := ∀ g n cap, v = .slice (some ⟨g, 0, none⟩) n cap → ∀ j, j < f → w.cell? ⟨g, j, none⟩ = some (markV k j)

theorem Marked.zero (w : World) (v : Value) (k : Nat) : Marked w v k 0 := fun _ _ _ _ _ h => absurd h (Nat.not_lt_zero _)
theorem Marked.mono {w : World} {v : Value} {k f f' : Nat} (h : Marked w v k f) (hf : f' ≤ f) : Marked w v k f' := fun g n cap e j hj => h g n cap e j (by omega)
theorem Marked.kept {w w' : World} {S : List Nat} {v : Value} {k f : Nat} (h : Marked w v k f) (ho : Only S w w') (hs : ∀ g ∈ S, v.ownBlock ≠ some g) : Marked w' v k f := fun g n cap e j hj =>
  cell_kept ho (h g n cap e j hj) (fun hm => hs g hm (by rw [e]; rfl))
theorem Marked.nil (w : World) (k f : Nat) : Marked w (.slice none 0 0) k f := fun g n cap e => by cases e
/-- A byte behind the marks is set. -/
theorem Marked.behind {w : World} {v u : Value} {k f g i : Nat} (h : Marked w v k f) (hi : v.ownBlock ≠ some g ∨ f ≤ i) : Marked (w.setCell ⟨g, i, none⟩ u) v k f := fun g' n cap e j hj => by
  rw [World.cell?_setCell_other _ _ _ _ (fun e2 => ?_)]
  · exact h g' n cap e j hj
  · cases e2
    rcases hi with hi | hi
    · exact hi (by rw [e]; rfl)
    · omega

/-- No two of them lie in one block. -/
def Alone (rs : List Value) : Prop := ∀ (i j : Nat) (r s : Value) (g : Nat), rs[i]? = some r → rs[j]? = some s → r.ownBlock = some g → s.ownBlock = some g → i = j
def owns (rs : List Value) : List Nat := rs.filterMap Value.ownBlock
theorem mem_owns {rs : List Value} {g : Nat} : g ∈ owns rs ↔ ∃ (i : Nat) (r : Value), rs[i]? = some r ∧ r.ownBlock = some g := by
  unfold owns
  rw [List.mem_filterMap]
  constructor
  · rintro ⟨r, hr, hg⟩
    obtain ⟨i, hi⟩ := List.mem_iff_getElem?.1 hr
    exact ⟨i, r, hi, hg⟩
  · rintro ⟨i, r, hi, hg⟩
    exact ⟨r, List.mem_of_getElem? hi, hg⟩

/-- The lists, each a row, and their marks so far. -/
structure Sheet (w0 w : World) (L : Nat) (lcs : Array Value) (rs : List Value) (ns f : Nat → Nat) : Prop where
  tab : w.heap[L]? = some (.cells lcs 23 (0, 0))
  row : ∀ i r, rs[i]? = some r → Row w r (ns i)
  mark : ∀ i r, rs[i]? = some r → Marked w r i (f i)
  only : Only (owns rs) w0 w

section
variable {w0 w w' : World} {L : Nat} {lcs : Array Value} {rs : List Value} {ns f : Nat → Nat}

theorem Sheet.weaken {f' : Nat → Nat} (h : Sheet w0 w L lcs rs ns f) (hf : ∀ i, f' i ≤ f i) : Sheet w0 w L lcs rs ns f' := ⟨h.tab, h.row, fun i r hi => (h.mark i r hi).mono (hf i), h.only⟩
theorem Sheet.quiet (h : Sheet w0 w L lcs rs ns f) (ho : Only [] w w') : Sheet w0 w' L lcs rs ns f :=
  ⟨ho.heap h.tab (by simp), fun i r hi => (h.row i r hi).kept ho (by simp), fun i r hi => (h.mark i r hi).kept ho (by simp), h.only.trans ho (by simp)⟩
/-- A block that is no list's has turned, and not the table. -/
theorem Sheet.far {g : Nat} (h : Sheet w0 w L lcs rs ns f) (ho : Only [g] w w') (hg : w0.heap.size ≤ g) (hL : L < w0.heap.size) (hr : ∀ (i : Nat) (r : Value), rs[i]? = some r → Value.ownBlock r ≠ some g) : Sheet w0 w' L lcs rs ns f :=
  ⟨ho.heap h.tab (by simp; omega), fun i r hi => (h.row i r hi).kept ho (by simpa using hr i r hi), fun i r hi => (h.mark i r hi).kept ho (by simpa using hr i r hi), h.only.trans ho (by simp; omega)⟩
theorem Sheet.ne (h : Sheet w0 w L lcs rs ns f) {i g : Nat} {r : Value} (hi : rs[i]? = some r) (hg : r.ownBlock = some g) : L ≠ g := by
  intro e
  have ht := h.tab
  subst e
  rcases h.row i r hi with ⟨e2, _⟩ | ⟨g', cap, cur, e2, _, _, h2, _⟩
  · rw [e2] at hg; cases hg
  · rw [e2] at hg
    cases hg
    rw [ht] at h2
    injection h2 with h2
    injection h2 with _ h2 _
    exact absurd h2 (by decide)
/-- One mark more. -/
theorem Sheet.set (hal : Alone rs) (h : Sheet w0 w L lcs rs ns f) {k j g n cap : Nat} (hk : rs[k]? = some (.slice (some ⟨g, 0, none⟩) n cap)) (hj : j < ns k) (hf : f k = j) :
    Sheet w0 (w.setCell ⟨g, j, none⟩ (markV k j)) L lcs rs ns (fun i => if i = k then j + 1 else f i) := by
  have hne := h.ne hk rfl
  have hq : Only [g] w (w.setCell ⟨g, j, none⟩ (markV k j)) := (Only.refl [g] w).setCell (p := ⟨g, j, none⟩) (by simp) _
  refine ⟨hq.heap h.tab (by simpa using hne), fun i r hi => (h.row i r hi).set, fun i r hi => ?_, h.only.trans hq (fun x hx => .inl (mem_owns.2 ⟨k, _, hk, by simp at hx; rw [hx]; rfl⟩))⟩
  by_cases e : i = k
  · subst e
    simp only [if_true]
    obtain rfl : r = _ := Option.some.inj (hi.symm.trans hk)
    intro g' n' cap' e2 t ht
    cases e2
    by_cases e3 : t = j
    · subst e3
      obtain ⟨_, cur, e4, h2, h3, _, h5⟩ := (h.row i _ hi).shape.elim fun a _ => (show ∃ _ : Nat, ∃ cur, True ∧ w.heap[g]? = some (.cells cur 5 (0, 0)) ∧ ns i ≤ cur.size ∧ True ∧ True from by
        rcases h.row i _ hi with ⟨e5, _⟩ | ⟨g5, cap5, cur, e5, q1, _, q2, q3, _⟩
        · cases e5
        · cases e5
          exact ⟨0, cur, trivial, q2, by omega, trivial, trivial⟩)
      rw [cell_at t (heap_cell (i := t) _ h2), Array.getElem?_setIfInBounds_self, if_pos (by omega)]
    · rw [World.cell?_setCell_other _ _ _ _ (fun e4 => e3 (by cases e4; rfl))]
      exact h.mark i _ hi g _ _ rfl t (by omega)
  · rw [if_neg e]
    exact (h.mark i r hi).behind (.inl fun e2 => e (hal i k r _ g hi hk e2 rfl))
end

/-- A row has grown by a byte c: in its spare room, or into a new block. -/
def Grew (w : World) (l : Value) (m : Nat) (c : Int) (g cap : Nat) (w' : World) : Prop :=
  (l = .slice (some ⟨g, 0, none⟩) m cap ∧ m + 1 ≤ cap ∧ w' = w.setCell ⟨g, m, none⟩ (.int .u8 c)) ∨
  (w.heap.size ≤ g ∧ Only [] w w' ∧ Row w' (.slice (some ⟨g, 0, none⟩) (m + 1) cap) (m + 1) ∧ w'.cell? ⟨g, m, none⟩ = some (.int .u8 c) ∧
    ∀ b n' cap', l = .slice (some ⟨b, 0, none⟩) n' cap' → ∀ j, j < m → w'.cell? ⟨g, j, none⟩ = w.cell? ⟨b, j, none⟩)

section
variable {w : World} {ops : Array Oper} {rest : List Oper} {o : Oper} {a : Act} {Q : Exit → Act → World → Prop}
theorem wpList_append_byte (hgd : o.guard = none) (s x : Operand) (ho : o.op = .call { callee := .builtin .append, args := #[s, x], argTypes := #[23, 23] })
    (l : Value) (m : Nat) (hs : a.eval s = l) (hr : Row w l m) (bx : Nat) (hx : a.eval x = .slice (some ⟨bx, 0, none⟩) 1 1) (c : Int) (hc : w.cell? ⟨bx, 0, none⟩ = some (.int .u8 c)) (hm : m ≤ 70368744177664)
    (h : ∀ g cap w', Grew w l m c g cap w' → wpList Try.prog ops Q rest (a.put o.dst (.slice (some ⟨g, 0, none⟩) (m + 1) cap)) w') : wpList Try.prog ops Q (o :: rest) a w := by
  obtain ⟨i, hi, hz⟩ := Option.map_eq_some_iff.1 info_u8'
  simp only [Prod.mk.injEq] at hz
  obtain ⟨z1, z2, z3⟩ := hz
  have hnews : ∀ j u, [Value.int .u8 c][j]? = some u → w.cell? ((⟨bx, 0, none⟩ : Addr).add j) = some u := fun j u hj => by
    cases j with
    | zero =>
      simp at hj
      subst hj
      have : (⟨bx, 0, none⟩ : Addr).add 0 = ⟨bx, 0, none⟩ := by simp [Addr.add]
      rw [this]
      exact hc
    | succ j => simp at hj
  rcases hr with ⟨rfl, rfl⟩ | ⟨g, cap, cur, rfl, h1, h2, h3, h4, h5⟩
  · refine wpList_append_grows w hgd s x 23 ho 5 i (.int .u8 0) 1 1 Try.underlying23 hi z1 z2 z3 rfl (by omega) none 0 0 [] hs (by simp) rfl (by simp) ⟨bx, 0, none⟩ 1 1 [.int .u8 c] hx rfl hnews (by simp [Value.oneCell']) (by omega) (by unfold maxLen; omega) (by omega) ?_
    intro v' w' hown hgr
    obtain ⟨e0, hown⟩ := hown
    rcases hown with ⟨_, e⟩ | ⟨g, cap, cur, rfl, hb, hg, k1, k2, k3, k4⟩
    · omega
    · refine h g cap w' (.inr ⟨hb, Only.of_grown hgr, .inr ⟨g, cap, cur, rfl, k1, k2, hg, by omega, fun j hj => ?_⟩, ?_, fun b n' cap' e => by cases e⟩)
      · obtain rfl : j = 0 := by omega
        exact ⟨c, by rw [take_get k4 (by omega)]; rfl⟩
      · rw [cell_at 0 hg, take_get k4 (by omega)]
        rfl
  · have hsz : (cur.toList.take m).length = m * 1 := by simp; omega
    refine wpList_append_arg w hgd s x 23 ho 5 i (.int .u8 0) 1 1 Try.underlying23 hi z1 z2 z3 rfl (by omega) g 0 m cap (cur.toList.take m) hs hsz ?_ ⟨bx, 0, none⟩ 1 1 [.int .u8 c] hx rfl hnews (by simp [Value.oneCell']) ?_ (by unfold maxLen; omega) (by omega) ?_ ?_
    · intro j u hj
      have hlt : j < m := by
        have := (List.getElem?_eq_some_iff.1 hj).1
        simp at this
        omega
      rw [Nat.zero_add, cell_at j h3]
      rw [List.getElem?_take_of_lt hlt] at hj
      simpa using hj
    · intro hroom j hj
      obtain rfl : j = 0 := by simpa using hj
      refine ⟨?_, ?_⟩
      · rw [cell_at _ h3]
        simp
        omega
      · exact free_at _ h3
    · intro hroom
      refine h g cap _ (.inl ⟨rfl, hroom, ?_⟩)
      simp [World.setCells]
    · intro hlt v' w' hown hgr
      obtain ⟨e0, hown⟩ := hown
      rcases hown with ⟨_, e⟩ | ⟨g', cap', cur', rfl, hb, hg, k1, k2, k3, k4⟩
      · omega
      · have hget : ∀ j, j < m → cur'[j]? = cur[j]? := fun j hj => by
          rw [take_get k4 (by omega), List.getElem?_append_left (by rw [hsz]; omega), List.getElem?_take_of_lt hj]
          simp
        have hlast : cur'[m]? = some (.int .u8 c) := by
          rw [take_get k4 (by omega), List.getElem?_append_right (by rw [hsz]; omega), hsz]
          simp
        refine h g' cap' w' (.inr ⟨hb, Only.of_grown hgr, .inr ⟨g', cap', cur', rfl, k1, k2, hg, by omega, fun j hj => ?_⟩, ?_, fun b n' cap'' e j hj => ?_⟩)
        · by_cases e : j < m
          · rw [hget j e]
            exact h5 j e
          · obtain rfl : j = m := by omega
            exact ⟨c, hlast⟩
        · rw [cell_at m hg, hlast]
        · cases e
          rw [cell_at j hg, cell_at j h3, hget j hj]
end
end Go.Proofs.Ythacfanfhdjmbaa
