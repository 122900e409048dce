/- Over and Apart: rows of bytes that are written over, marked and grown. -/
import Derived.Test.YtchljhjngnbclaaD3
import Derived.ArgAppend
import Derived.Deep.AppendLies
namespace Go.Proofs.Ytchljhjngnbclaa
open Go.RowKit Go.Maps
set_option linter.unusedSimpArgs false
set_option linter.unusedVariables false

section
variable {P : Program} {md : Region.Mode} {l : List Oper} {Q : Exit → Act → World → Prop} {S : World → Prop}
theorem ready_two {fuel : Nat} {listed : Array Bool} {a : Act} {w : World} {i j : Nat} {o p : Oper} (ho : l[i]? = some o) (hp : l[j]? = some p)
    (h : ∀ K' : Act → World → Prop, Shut (∀ a w, S w → (S w → wpAnyH P md l.toArray Q S fuel (listed.setIfInBounds i true) a w) → K' a w) → if Region.wanted o (yielded l.toArray a.tmps) = true then Oper.wp P o a w K' Q else K' (a.put o.dst undef) w)
    (h2 : ∀ K' : Act → World → Prop, Shut (∀ a w, S w → (S w → wpAnyH P md l.toArray Q S fuel (listed.setIfInBounds j true) a w) → K' a w) → if Region.wanted p (yielded l.toArray a.tmps) = true then Oper.wp P p a w K' Q else K' (a.put p.dst undef) w) :
    AllReadyH P md l.toArray Q S fuel listed a w [i, j] := AllReadyH.cons (by simpa using ho) h (AllReadyH.cons (by simpa using hp) h2 AllReadyH.nil)
end

/-- v is nil, or a slice of bytes at its block's beginning. -/
def Row (w : World) (v : Value) (n : Nat) : Prop :=
  (v = .slice none 0 0 ∧ n = 0) ∨
  ∃ g cap cur, v = .slice (some ⟨g, 0, none⟩) n cap ∧ n ≤ cap ∧ cap ≤ maxLen ∧ w.heap[g]? = some (.cells cur 5 (0, 0)) ∧ cap ≤ cur.size ∧ ∀ j, j < n → ∃ c : Int, cur[j]? = some (.int .u8 c)

theorem Row.shape {w : World} {v : Value} {n : Nat} (h : Row w v n) : ∃ a cap, v = .slice a n cap ∧ n ≤ cap := by
  rcases h with ⟨rfl, rfl⟩ | ⟨g, cap, cur, rfl, h1, _⟩
  · exact ⟨_, _, rfl, by omega⟩
  · exact ⟨_, _, rfl, h1⟩
theorem Row.at_ {w : World} {a : Option Addr} {n cap : Nat} (h : Row w (.slice a n cap) n) (hn : 0 < n) :
    ∃ g cur, a = some ⟨g, 0, none⟩ ∧ w.heap[g]? = some (.cells cur 5 (0, 0)) ∧ cap ≤ cur.size ∧ n ≤ cap ∧ ∀ j, j < n → ∃ c : Int, cur[j]? = some (.int .u8 c) := by
  rcases h with ⟨e, rfl⟩ | ⟨g, cap', cur, e, h1, _, h2, h3, h4⟩
  · omega
  · cases e
    exact ⟨g, cur, rfl, h2, h3, h1, h4⟩
theorem Row.lt {w : World} {v : Value} {n g : Nat} (h : Row w v n) (hg : v.ownBlock = some g) : g < w.heap.size := by
  rcases h with ⟨rfl, rfl⟩ | ⟨g', cap, cur, rfl, _, _, h2, _⟩
  · cases hg
  · cases hg
    exact lt_of_heap h2
theorem Row.kept {w w' : World} {S : List Nat} {v : Value} {n : Nat} (h : Row w v n) (ho : Only S w w') (hs : ∀ g ∈ S, v.ownBlock ≠ some g) : Row w' v n := by
  rcases h with h | ⟨g, cap, cur, rfl, h1, h2, h3, h4⟩
  · exact .inl h
  · exact .inr ⟨g, cap, cur, rfl, h1, h2, ho.heap h3 (fun e => hs g e rfl), h4⟩
theorem BBlk.row {w : World} {g : Nat} {l : Sec} (h : BBlk w g l) (hl : l.length ≤ maxLen) : Row w (.slice (some ⟨g, 0, none⟩) l.length l.length) l.length :=
  .inr ⟨g, l.length, _, rfl, Nat.le_refl _, hl, h, by simp, fun j hj => ⟨_, by rw [enc_get, List.getElem?_eq_getElem hj]; rfl⟩⟩
/-- One cell of a row has turned. -/
theorem Row.set {w : World} {v : Value} {n g i : Nat} {c : Int} (h : Row w v n) : Row (w.setCell ⟨g, i, none⟩ (.int .u8 c)) v n := by
  rcases h with h | ⟨g', cap, cur, rfl, h1, h2, h3, h4, h5⟩
  · exact .inl h
  · by_cases e : g' = g
    · subst e
      refine .inr ⟨g', cap, _, rfl, h1, h2, heap_cell _ h3, by simpa using h4, fun j hj => ?_⟩
      rw [Array.getElem?_setIfInBounds]
      split
      · rw [if_pos (by omega)]
        exact ⟨_, rfl⟩
      · exact h5 j hj
    · refine .inr ⟨g', cap, cur, rfl, h1, h2, ?_, h4, h5⟩
      exact (((Only.refl [g] w).setCell (p := ⟨g, i, none⟩) (by simp) _).heap h3 (by simpa using e))
theorem own_slice (a : Option Addr) (n m cap cap' : Nat) : (Value.slice a n cap).ownBlock = (Value.slice a m cap').ownBlock := by cases a <;> rfl
theorem heap_slot {w : World} {p : Addr} {v : Value} : (w.setCell p v).heap.size = w.heap.size := by simp [World.setCell]

set_option maxRecDepth 100000 in
theorem over_any (v : Value) (n : Nat) (w : World) (h : Row w v n) (hn : n ≤ 4611686018427387904) :
    Calls Try.prog 29 #[v] w fun e w' => e = .returned (.tuple #[]) ∧ Row w' v n ∧ Only v.ownBlock.toList w w' := by
  obtain ⟨a, cap, rfl, hc⟩ := h.shape
  have H := Lib.hid h
  clear h
  go_enter Try.func29, Try.ntmps29
  go_wp2
  go_loopw [2, 5] (fun _ i wr => ∃ k : Nat, k ≤ n ∧ i = .int .i64 k ∧ Row wr (.slice a n cap) n ∧ Only (Value.slice a n cap).ownBlock.toList w wr) (fun _ i _ => n - (intOf i).toNat)
  case atStart => exact ⟨0, by omega, rfl, H.out, Only.refl _ _⟩
  case round =>
    clear H
    obtain ⟨k, hk, rfl, hr, ho⟩ := hrel
    by_cases hlt : k < n
    · have hr' := hr
      obtain ⟨g, cur, rfl, hg, hs, _, hv⟩ := hr'.at_ (by omega)
      obtain ⟨c, hc'⟩ := hv k hlt
      have e1 : wr.cell? ⟨g, k, none⟩ = some (.int .u8 c) := by rw [cell_at k hg]; exact hc'
      have e2 : wr.frozen? ⟨g, k, none⟩ = false := free_at k hg
      have k0 : (0 : Int) ≤ (k : Int) := by omega
      have k1 : (k : Int) < (n : Int) := by omega
      have hset := Lib.hid (hr.set (g := g) (i := k) (c := bits .xor .u8 c 255))
      have hof := Lib.hid (ho.setCell (p := ⟨g, k, none⟩) (.inl (by simp [Value.ownBlock])) (.int .u8 (bits .xor .u8 c 255)))
      clear hr ho hg hs hv hc'
      go_wp2
      go_roundw
      case rel => exact ⟨k + 1, by omega, by go_num, hset.out, hof.out⟩
      case measure => simp [intOf]; omega
    · obtain rfl : k = n := by omega
      go_wp2
      go_returns
      exact ⟨rfl, hr, ho⟩
end Go.Proofs.Ytchljhjngnbclaa
