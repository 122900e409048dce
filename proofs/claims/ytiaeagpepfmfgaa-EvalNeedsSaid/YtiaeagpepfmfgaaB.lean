/- Bytes in memory: what a slice reads as, rows of one's own, copy, append, strings. Nothing of the program is named here but its types. -/
import Derived.Test.YtiaeagpepfmfgaaChecked
import Derived.Test.YtiaeagpepfmfgaaW
import Derived.ArgAppend
import Derived.Deep.AppendLies
import Derived.Deep.OwnRows
import Derived.OwnWalk
import Derived.IntWalk
import Derived.Laws.IdiomStrings
namespace Go.Proofs.Ytiaeagpepfmfgaa
open Go.RowKit Go.Maps
set_option linter.unusedSimpArgs false
set_option linter.unusedVariables false

/-! ### what a slice of bytes reads as -/
/-- v is a slice whose bytes are l. -/
def Bytes (w : World) (v : Value) (l : Sec) : Prop :=
  ∃ (a : Option Addr) (cap : Nat), v = .slice a l.length cap ∧ ∀ i c, l[i]? = some c → ∃ b off, a = some ⟨b, off, none⟩ ∧ w.cell? ⟨b, off + i, none⟩ = some (.int .u8 c.toNat)
/-- v is a slice of slices of bytes. -/
def Parts (w : World) (v : Value) (ls : List Sec) : Prop :=
  ∃ (a : Option Addr) (cap : Nat), v = .slice a ls.length cap ∧ ∀ i l, ls[i]? = some l → ∃ b off s, a = some ⟨b, off, none⟩ ∧ w.cell? ⟨b, off + i, none⟩ = some s ∧ Bytes w s l
/-- A block that is just a row of bytes. -/
def BBlk (w : World) (g : Nat) (l : Sec) : Prop := w.heap[g]? = some (.cells (enc l) 5 (0, 0))

theorem BBlk.kept {S : List Nat} {w w' : World} {g : Nat} {l : Sec} (h : BBlk w g l) (ho : Only S w w') (hp : g ∉ S) : BBlk w' g l := ho.heap h hp
theorem BBlk.lt {w : World} {g : Nat} {l : Sec} (h : BBlk w g l) : g < w.heap.size := lt_of_heap h
theorem BBlk.cell {w : World} {g : Nat} {l : Sec} (h : BBlk w g l) {i : Nat} {c : UInt8} (hi : l[i]? = some c) : w.cell? ⟨g, i, none⟩ = some (.int .u8 c.toNat) := by
  rw [cell_at i h, enc_get, hi]
  rfl
theorem BBlk.bytes {w : World} {g : Nat} {l : Sec} (h : BBlk w g l) (cap : Nat) : Bytes w (.slice (some ⟨g, 0, none⟩) l.length cap) l :=
  ⟨_, cap, rfl, fun i c hi => ⟨g, 0, rfl, by rw [Nat.zero_add]; exact h.cell hi⟩⟩

theorem cell_kept {S : List Nat} {w w' : World} (ho : Only S w w') {ad : Addr} {v : Value} (hc : w.cell? ad = some v) (hn : ad.block ∉ S) : w'.cell? ad = some v := by
  have hlt := World.block_lt_of_cell? _ _ hc
  rw [World.cell?_of_block (ho.block _ hlt hn)]
  exact hc
theorem cell_no_map {w : World} {P : Program} {b : Nat} {m : Int → Option Sec} (h : SMap P w b m) {ad : Addr} {v : Value} (hc : w.cell? ad = some v) : ad.block ≠ b := by
  obtain ⟨es, clock, hb⟩ := h.obj
  intro e
  simp [World.cell?, e, hb] at hc

/-- What turned has neither bytes nor slices. -/
def Clean (S : List Nat) (w : World) : Prop := ∀ (ad : Addr) (v : Value), w.cell? ad = some v → ((∃ c : Int, v = .int .u8 c) ∨ ∃ a n c, v = .slice a n c) → ad.block ∉ S
theorem clean_nil (w : World) : Clean [] w := fun _ _ _ _ => by simp
theorem Bytes.kept {S : List Nat} {w w' : World} {v : Value} {l : Sec} (h : Bytes w v l) (ho : Only S w w') (hs : Clean S w) : Bytes w' v l := by
  obtain ⟨a, cap, hv, hc⟩ := h
  refine ⟨a, cap, hv, fun i c hi => ?_⟩
  obtain ⟨b, off, ha, hcell⟩ := hc i c hi
  exact ⟨b, off, ha, cell_kept ho hcell (hs _ _ hcell (.inl ⟨_, rfl⟩))⟩
theorem Parts.kept {S : List Nat} {w w' : World} {v : Value} {ls : List Sec} (h : Parts w v ls) (ho : Only S w w') (hs : Clean S w) : Parts w' v ls := by
  obtain ⟨a, cap, hv, hc⟩ := h
  refine ⟨a, cap, hv, fun i l hi => ?_⟩
  obtain ⟨b, off, s, ha, hcell, hb⟩ := hc i l hi
  have hs' : ∃ a n c, s = .slice a n c := by
    obtain ⟨a', cap', e, _⟩ := hb
    exact ⟨_, _, _, e⟩
  exact ⟨b, off, s, ha, cell_kept ho hcell (hs _ _ hcell (.inr hs')), hb.kept ho hs⟩
/-- Bytes of blocks that did not turn. -/
theorem Bytes.kept' {S : List Nat} {w w' : World} {g cap : Nat} {l : Sec} {off : Nat} (h : Bytes w (.slice (some ⟨g, off, none⟩) l.length cap) l) (ho : Only S w w') (hg : g ∉ S) : Bytes w' (.slice (some ⟨g, off, none⟩) l.length cap) l := by
  obtain ⟨a, cap', hv, hc⟩ := h
  injection hv with h1 h2 h3
  subst h1
  refine ⟨_, cap, rfl, fun i c hi => ?_⟩
  obtain ⟨b, off', ha, hcell⟩ := hc i c hi
  cases ha
  exact ⟨_, _, rfl, cell_kept ho hcell hg⟩


theorem info_u8 : (Try.prog.info? 5).map (·.size) = some 1 := by kernel_rfl
theorem heap_new_cell (w : World) (v : Value) (t : TypeId) : (w.alloc (.cells #[v] t)).cell? ⟨w.heap.size, 0, none⟩ = some v := by rw [cell_at 0 (heap_new w _)]; rfl
theorem info_u8' : (Try.prog.info? 5).map (fun i => (i.zero, i.size, i.bytes)) = some (some (.int .u8 0), 1, 1) := by kernel_rfl

theorem take_get {cur : Array Value} {n : Nat} {xs : List Value} (h : cur.toList.take n = xs) {j : Nat} (hj : j < n) : cur[j]? = xs[j]? := by
  rw [← h, List.getElem?_take_of_lt hj]
  simp

def total : List Sec → Nat
  | [] => 0
  | l :: r => l.length + total r
theorem total_flatten : ∀ ls : List Sec, total ls = ls.flatten.length
  | [] => rfl
  | l :: r => by simp [total, total_flatten r]
theorem total_take_succ : ∀ (ls : List Sec) (k : Nat) (l : Sec), ls[k]? = some l → total (ls.take (k + 1)) = total (ls.take k) + l.length
  | [], k, l, h => by simp at h
  | x :: r, 0, l, h => by simp at h; subst h; simp [total]
  | x :: r, k + 1, l, h => by
    have ih := total_take_succ r k l (by simpa using h)
    simp only [List.take_succ_cons, total, ih]
    omega
theorem total_take_le : ∀ (ls : List Sec) (k : Nat), total (ls.take k) ≤ total ls
  | [], k => by simp [total]
  | l :: r, 0 => by simp [total]
  | l :: r, k + 1 => by
    have := total_take_le r k
    simp only [List.take_succ_cons, total]
    omega
theorem ret_bool {a b : Bool} (h : a = b) : Ending.returned (.bool a) = .returned (.bool b) := by rw [h]

/-- One part of a slice of parts. -/
theorem Parts.part {w : World} {v : Value} {ls : List Sec} (h : Parts w v ls) {k : Nat} {l : Sec} (hk : ls[k]? = some l) :
    ∃ b off cap a' cap', v = .slice (some ⟨b, off, none⟩) ls.length cap ∧ w.cell? ⟨b, off + k, none⟩ = some (.slice a' l.length cap') ∧ Bytes w (.slice a' l.length cap') l := by
  obtain ⟨a, cap, hv, hc⟩ := h
  obtain ⟨b, off, s, ha, hcell, hb⟩ := hc k l hk
  obtain ⟨a', cap', hs, hc'⟩ := hb
  subst ha; subst hs
  exact ⟨b, off, cap, a', cap', hv, hcell, a', cap', rfl, hc'⟩

/-- v is a slice of ints. -/
def IntsV (w : World) (v : Value) (ks : List Int) : Prop :=
  ∃ (a : Option Addr) (cap : Nat), v = .slice a ks.length cap ∧ ∀ i k, ks[i]? = some k → (Lit.int .i64 k).wf = true ∧ ∃ b off, a = some ⟨b, off, none⟩ ∧ w.cell? ⟨b, off + i, none⟩ = some (.int .i64 k)
/-- The slice's cells lie in no block of S. -/
def Off (v : Value) (S : List Nat) : Prop := ∀ a n c, v = .slice (some a) n c → 0 < n → a.block ∉ S
theorem IntsV.kept {S : List Nat} {w w' : World} {v : Value} {ks : List Int} (h : IntsV w v ks) (ho : Only S w w') (hs : Off v S) : IntsV w' v ks := by
  obtain ⟨a, cap, hv, hc⟩ := h
  refine ⟨a, cap, hv, fun i c hi => ?_⟩
  obtain ⟨hw, b, off, ha, hcell⟩ := hc i c hi
  exact ⟨hw, b, off, ha, cell_kept ho hcell (hs ⟨b, off, none⟩ _ _ (by rw [hv, ha]) (Nat.lt_of_le_of_lt (Nat.zero_le _) (List.getElem?_eq_some_iff.1 hi).1))⟩
theorem IntsV.at_ {w : World} {v : Value} {ks : List Int} (h : IntsV w v ks) {i : Nat} {k : Int} (hi : ks[i]? = some k) :
    (Lit.int .i64 k).wf = true ∧ ∃ b off cap, v = .slice (some ⟨b, off, none⟩) ks.length cap ∧ w.cell? ⟨b, off + i, none⟩ = some (.int .i64 k) := by
  obtain ⟨a, cap, hv, hc⟩ := h
  obtain ⟨hw, b, off, ha, hcell⟩ := hc i k hi
  exact ⟨hw, b, off, cap, by rw [hv, ha], hcell⟩

theorem bytes_news {w : World} {a : Option Addr} {n cap : Nat} {l : Sec} (h : Bytes w (.slice a n cap) l) : n = l.length ∧ ∀ ad, a = some ad → ∀ (j : Nat) (u : Value), (l.map fun c => Value.int .u8 c.toNat)[j]? = some u → w.cell? (ad.add j) = some u := by
  obtain ⟨a', cap', e, hc⟩ := h
  injection e with e1 e2 e3
  subst e1
  refine ⟨e2, fun ad had j u hu => ?_⟩
  rw [List.getElem?_map, Option.map_eq_some_iff] at hu
  obtain ⟨c, hc', rfl⟩ := hu
  obtain ⟨b, off, hb, hcell⟩ := hc j c hc'
  rw [had] at hb
  cases hb
  rw [Addr.add_lit]
  exact hcell

theorem Bytes.keptOff {S : List Nat} {w w' : World} {v : Value} {l : Sec} (h : Bytes w v l) (ho : Only S w w') (hs : Off v S) : Bytes w' v l := by
  obtain ⟨a, cap, hv, hc⟩ := h
  refine ⟨a, cap, hv, fun i c hi => ?_⟩
  obtain ⟨b, off, ha, hcell⟩ := hc i c hi
  exact ⟨b, off, ha, cell_kept ho hcell (hs ⟨b, off, none⟩ _ _ (by rw [hv, ha]) (Nat.lt_of_le_of_lt (Nat.zero_le _) (List.getElem?_eq_some_iff.1 hi).1))⟩

section
variable {P : Program} {md : Region.Mode} {l : List Oper} {Q : Exit → Act → World → Prop} {S : World → Prop}
theorem ready_two {fuel : Nat} {listed : Array Bool} {a : Act} {w : World} {i j : Nat} {o p : Oper} (ho : l[i]? = some o) (hp : l[j]? = some p)
    (h : ∀ K' : Act → World → Prop, Shut (∀ a w, S w → (S w → wpAnyH P md l.toArray Q S fuel (listed.setIfInBounds i true) a w) → K' a w) → if Region.wanted o (yielded l.toArray a.tmps) = true then Oper.wp P o a w K' Q else K' (a.put o.dst undef) w)
    (h2 : ∀ K' : Act → World → Prop, Shut (∀ a w, S w → (S w → wpAnyH P md l.toArray Q S fuel (listed.setIfInBounds j true) a w) → K' a w) → if Region.wanted p (yielded l.toArray a.tmps) = true then Oper.wp P p a w K' Q else K' (a.put p.dst undef) w) :
    AllReadyH P md l.toArray Q S fuel listed a w [i, j] := AllReadyH.cons (by simpa using ho) h (AllReadyH.cons (by simpa using hp) h2 AllReadyH.nil)
end

/-- v is nil, or a slice of bytes at its block's beginning. -/
def Row (w : World) (v : Value) (n : Nat) : Prop :=
  (v = .slice none 0 0 ∧ n = 0) ∨
  ∃ g cap cur, v = .slice (some ⟨g, 0, none⟩) n cap ∧ n ≤ cap ∧ cap ≤ maxLen ∧ w.heap[g]? = some (.cells cur 5 (0, 0)) ∧ cap ≤ cur.size ∧ ∀ j, j < n → ∃ c : Int, cur[j]? = some (.int .u8 c)

theorem Row.shape {w : World} {v : Value} {n : Nat} (h : Row w v n) : ∃ a cap, v = .slice a n cap ∧ n ≤ cap := by
  rcases h with ⟨rfl, rfl⟩ | ⟨g, cap, cur, rfl, h1, _⟩
  · exact ⟨_, _, rfl, by omega⟩
  · exact ⟨_, _, rfl, h1⟩
theorem Row.at_ {w : World} {a : Option Addr} {n cap : Nat} (h : Row w (.slice a n cap) n) (hn : 0 < n) :
    ∃ g cur, a = some ⟨g, 0, none⟩ ∧ w.heap[g]? = some (.cells cur 5 (0, 0)) ∧ cap ≤ cur.size ∧ n ≤ cap ∧ ∀ j, j < n → ∃ c : Int, cur[j]? = some (.int .u8 c) := by
  rcases h with ⟨e, rfl⟩ | ⟨g, cap', cur, e, h1, _, h2, h3, h4⟩
  · omega
  · cases e
    exact ⟨g, cur, rfl, h2, h3, h1, h4⟩
theorem Row.lt {w : World} {v : Value} {n g : Nat} (h : Row w v n) (hg : v.ownBlock = some g) : g < w.heap.size := by
  rcases h with ⟨rfl, rfl⟩ | ⟨g', cap, cur, rfl, _, _, h2, _⟩
  · cases hg
  · cases hg
    exact lt_of_heap h2
theorem Row.kept {w w' : World} {S : List Nat} {v : Value} {n : Nat} (h : Row w v n) (ho : Only S w w') (hs : ∀ g ∈ S, v.ownBlock ≠ some g) : Row w' v n := by
  rcases h with h | ⟨g, cap, cur, rfl, h1, h2, h3, h4⟩
  · exact .inl h
  · exact .inr ⟨g, cap, cur, rfl, h1, h2, ho.heap h3 (fun e => hs g e rfl), h4⟩
theorem BBlk.row {w : World} {g : Nat} {l : Sec} (h : BBlk w g l) (hl : l.length ≤ maxLen) : Row w (.slice (some ⟨g, 0, none⟩) l.length l.length) l.length :=
  .inr ⟨g, l.length, _, rfl, Nat.le_refl _, hl, h, by simp, fun j hj => ⟨_, by rw [enc_get, List.getElem?_eq_getElem hj]; rfl⟩⟩
/-- One cell of a row has turned. -/
theorem Row.set {w : World} {v : Value} {n g i : Nat} {c : Int} (h : Row w v n) : Row (w.setCell ⟨g, i, none⟩ (.int .u8 c)) v n := by
  rcases h with h | ⟨g', cap, cur, rfl, h1, h2, h3, h4, h5⟩
  · exact .inl h
  · by_cases e : g' = g
    · subst e
      refine .inr ⟨g', cap, _, rfl, h1, h2, heap_cell _ h3, by simpa using h4, fun j hj => ?_⟩
      rw [Array.getElem?_setIfInBounds]
      split
      · rw [if_pos (by omega)]
        exact ⟨_, rfl⟩
      · exact h5 j hj
    · refine .inr ⟨g', cap, cur, rfl, h1, h2, ?_, h4, h5⟩
      exact (((Only.refl [g] w).setCell (p := ⟨g, i, none⟩) (by simp) _).heap h3 (by simpa using e))
theorem own_slice (a : Option Addr) (n m cap cap' : Nat) : (Value.slice a n cap).ownBlock = (Value.slice a m cap').ownBlock := by cases a <;> rfl
theorem heap_slot {w : World} {p : Addr} {v : Value} : (w.setCell p v).heap.size = w.heap.size := by simp [World.setCell]


/-- An error by its number. -/
abbrev err (n : Int) : Value := .iface 50 (.int .i64 n)

/-! ### rows of one's own -/
theorem own_kept {w w' : World} {base n : Nat} {e : TypeId} {v : Value} {xs : List Value} {S : List Nat} (h : w.ownsRow base e 1 v n xs) (ho : Only S w w') (hs : ∀ k ∈ S, v.ownBlock ≠ some k) : w'.ownsRow base e 1 v n xs := by
  refine ⟨h.1, ?_⟩
  rcases h.2 with hn | ⟨g, cap, cur, rfl, hb, hg, r⟩
  · exact .inl hn
  · exact .inr ⟨g, cap, cur, rfl, hb, ho.heap hg (fun e => hs g e rfl), r⟩
theorem own_shape {w : World} {base n : Nat} {e : TypeId} {v : Value} {xs : List Value} (h : w.ownsRow base e 1 v n xs) : ∃ a cap, v = .slice a n cap ∧ n ≤ cap := by
  rcases h.2 with ⟨rfl, rfl⟩ | ⟨g, cap, cur, rfl, _, _, h1, _⟩
  · exact ⟨_, _, rfl, Nat.le_refl _⟩
  · exact ⟨_, _, rfl, h1⟩
theorem own_at {w : World} {base n cap : Nat} {e : TypeId} {a : Option Addr} {xs : List Value} (h : w.ownsRow base e 1 (.slice a n cap) n xs) {i : Nat} {x : Value} (hi : xs[i]? = some x) : ∃ g, a = some ⟨g, 0, none⟩ ∧ w.cell? ⟨g, i, none⟩ = some x ∧ base ≤ g := by
  have hlt : i < n := by
    have h1 := h.1
    have h2 := (List.getElem?_eq_some_iff.1 hi).1
    omega
  rcases h.2 with ⟨_, e⟩ | ⟨g, cap', cur, e, hb, hg, h1, _, h2, h3⟩
  · omega
  · cases e
    refine ⟨g, rfl, ?_, hb⟩
    rw [cell_at i hg]
    rw [Nat.mul_one] at h3
    rw [take_get h3 hlt, hi]

/-! ### copy -/
def spl (cur : Sec) (off : Nat) (src : Sec) : Sec := cur.take off ++ src ++ cur.drop (off + src.length)
theorem spl_length (cur : Sec) (off : Nat) (src : Sec) (h : off + src.length ≤ cur.length) : (spl cur off src).length = cur.length := by simp [spl]; omega
theorem spl_whole (cur src : Sec) (h : src.length = cur.length) : spl cur 0 src = src := by simp [spl, h]
theorem enc_spl (cur : Sec) (off : Nat) (src : Sec) : ((enc cur).toList.take off ++ ((enc src).toList ++ (enc cur).toList.drop (off + (enc src).toList.length))).toArray = enc (spl cur off src) := by
  simp [enc, spl, List.map_take, List.map_drop]

section
variable {w : World} {ops : Array Oper} {rest : List Oper} {o : Oper} {a : Act} {Q : Exit → Act → World → Prop}
end

theorem run_append_empty {P : Program} {w : World} (base : Nat) (t ty e : TypeId) (i : TypeInfo) (size : Nat) (ht : P.underlying t = some (.slice e)) (hi : P.info? e = some i)
    (v : Value) (n : Nat) (xs : List Value) (hown : w.ownsRow base e size v n xs) (ao : Option Addr) (c : Nat) :
    (Builtin.append_ #[t, t] ty #[v, .slice ao 0 c]).run P w = .ok v w := by
  rcases hown.2 with ⟨rfl, rfl⟩ | ⟨g, cap, cur, rfl, _, _, hnc, _⟩
  · cases ao <;> simp [Builtin.append_, run_underlying ht, sizeOf, typeInfo, hi, Builtin.lenOf, Builtin.firstCells, loadCells, loadCellsFrom]
  · cases ao <;> simp [Builtin.append_, run_underlying ht, sizeOf, typeInfo, hi, Builtin.lenOf, Builtin.firstCells, hnc, storeCells, loadCells, loadCellsFrom]


/-! ### strings of bytes -/
def strOf (l : Sec) : ByteArray := ⟨l.toArray⟩
end Go.Proofs.Ytiaeagpepfmfgaa
