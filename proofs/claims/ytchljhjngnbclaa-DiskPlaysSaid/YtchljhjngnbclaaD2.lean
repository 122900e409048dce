/- Rows of bytes in memory, and the functions that make, count and join them. -/
import Derived.Test.YtchljhjngnbclaaD1
namespace Go.Proofs.Ytchljhjngnbclaa
open Go.RowKit Go.Maps

/-! ### what a slice of bytes reads as -/
/-- v is a slice whose bytes are l. -/
def Bytes (w : World) (v : Value) (l : Sec) : Prop :=
  ∃ (a : Option Addr) (cap : Nat), v = .slice a l.length cap ∧ ∀ i c, l[i]? = some c → ∃ b off, a = some ⟨b, off, none⟩ ∧ w.cell? ⟨b, off + i, none⟩ = some (.int .u8 c.toNat)
/-- v is a slice of slices of bytes. -/
def Parts (w : World) (v : Value) (ls : List Sec) : Prop :=
  ∃ (a : Option Addr) (cap : Nat), v = .slice a ls.length cap ∧ ∀ i l, ls[i]? = some l → ∃ b off s, a = some ⟨b, off, none⟩ ∧ w.cell? ⟨b, off + i, none⟩ = some s ∧ Bytes w s l
/-- A block that is just a row of bytes. -/
def BBlk (w : World) (g : Nat) (l : Sec) : Prop := w.heap[g]? = some (.cells (enc l) 5 (0, 0))

theorem BBlk.kept {S : List Nat} {w w' : World} {g : Nat} {l : Sec} (h : BBlk w g l) (ho : Only S w w') (hp : g ∉ S) : BBlk w' g l := ho.heap h hp
theorem BBlk.lt {w : World} {g : Nat} {l : Sec} (h : BBlk w g l) : g < w.heap.size := lt_of_heap h
theorem BBlk.cell {w : World} {g : Nat} {l : Sec} (h : BBlk w g l) {i : Nat} {c : UInt8} (hi : l[i]? = some c) : w.cell? ⟨g, i, none⟩ = some (.int .u8 c.toNat) := by
  rw [cell_at i h, enc_get, hi]
  rfl
theorem BBlk.bytes {w : World} {g : Nat} {l : Sec} (h : BBlk w g l) (cap : Nat) : Bytes w (.slice (some ⟨g, 0, none⟩) l.length cap) l :=
  ⟨_, cap, rfl, fun i c hi => ⟨g, 0, rfl, by rw [Nat.zero_add]; exact h.cell hi⟩⟩

theorem cell_kept {S : List Nat} {w w' : World} (ho : Only S w w') {ad : Addr} {v : Value} (hc : w.cell? ad = some v) (hn : ad.block ∉ S) : w'.cell? ad = some v := by
  have hlt := World.block_lt_of_cell? _ _ hc
  rw [World.cell?_of_block (ho.block _ hlt hn)]
  exact hc
/-- No byte and no slice lies in a device's struct; no cell at all in a map. -/
theorem cell_apart {w : World} {p : Nat} {m : Met} {size : Int} {bn bs : Nat} (h : DBlk w p m size bn bs) {ad : Addr} {v : Value} (hc : w.cell? ad = some v) (hv : (∃ c : Int, v = .int .u8 c) ∨ ∃ a n c, v = .slice a n c) : ad.block ≠ p := by
  intro e
  unfold World.cell? at hc
  rw [e, show w.heap[p]? = _ from h] at hc
  dsimp only at hc
  split at hc
  · cases hc
  · rename_i hs
    have hm : v ∈ m.cells size bn bs := by
      rw [Array.mem_iff_getElem?]
      exact ⟨_, hc⟩
    simp [Met.cells] at hm
    rcases hv with ⟨c, rfl⟩ | ⟨a, n, c, rfl⟩ <;> simp at hm
theorem cell_no_map {w : World} {P : Program} {b : Nat} {m : Int → Option Sec} (h : SMap P w b m) {ad : Addr} {v : Value} (hc : w.cell? ad = some v) : ad.block ≠ b := by
  obtain ⟨es, clock, hb⟩ := h.obj
  intro e
  simp [World.cell?, e, hb] at hc

/-- What turned has neither bytes nor slices. -/
def Clean (S : List Nat) (w : World) : Prop := ∀ (ad : Addr) (v : Value), w.cell? ad = some v → ((∃ c : Int, v = .int .u8 c) ∨ ∃ a n c, v = .slice a n c) → ad.block ∉ S
theorem clean_nil (w : World) : Clean [] w := fun _ _ _ _ => by simp
theorem Bytes.kept {S : List Nat} {w w' : World} {v : Value} {l : Sec} (h : Bytes w v l) (ho : Only S w w') (hs : Clean S w) : Bytes w' v l := by
  obtain ⟨a, cap, hv, hc⟩ := h
  refine ⟨a, cap, hv, fun i c hi => ?_⟩
  obtain ⟨b, off, ha, hcell⟩ := hc i c hi
  exact ⟨b, off, ha, cell_kept ho hcell (hs _ _ hcell (.inl ⟨_, rfl⟩))⟩
theorem Parts.kept {S : List Nat} {w w' : World} {v : Value} {ls : List Sec} (h : Parts w v ls) (ho : Only S w w') (hs : Clean S w) : Parts w' v ls := by
  obtain ⟨a, cap, hv, hc⟩ := h
  refine ⟨a, cap, hv, fun i l hi => ?_⟩
  obtain ⟨b, off, s, ha, hcell, hb⟩ := hc i l hi
  have hs' : ∃ a n c, s = .slice a n c := by
    obtain ⟨a', cap', e, _⟩ := hb
    exact ⟨_, _, _, e⟩
  exact ⟨b, off, s, ha, cell_kept ho hcell (hs _ _ hcell (.inr hs')), hb.kept ho hs⟩
/-- Bytes of blocks that did not turn. -/
theorem Bytes.kept' {S : List Nat} {w w' : World} {g cap : Nat} {l : Sec} {off : Nat} (h : Bytes w (.slice (some ⟨g, off, none⟩) l.length cap) l) (ho : Only S w w') (hg : g ∉ S) : Bytes w' (.slice (some ⟨g, off, none⟩) l.length cap) l := by
  obtain ⟨a, cap', hv, hc⟩ := h
  injection hv with h1 h2 h3
  subst h1
  refine ⟨_, cap, rfl, fun i c hi => ?_⟩
  obtain ⟨b, off', ha, hcell⟩ := hc i c hi
  cases ha
  exact ⟨_, _, rfl, cell_kept ho hcell hg⟩

/-! ### closed facts -/
theorem zero_sector (w : World) : (zeroValue 85).run Try.prog w = .ok (.agg (enc zeros)) w := by kernel_rfl
theorem info_sector : (Try.prog.info? 85).map (·.size) = some 512 := by kernel_rfl
theorem info_u8 : (Try.prog.info? 5).map (·.size) = some 1 := by kernel_rfl
theorem make_512 (w : World) : (Instr.makeSlice 34 (.int .i64 512) (.int .i64 512)).run Try.prog w = .ok (.slice (some ⟨w.heap.size, 0, none⟩) 512 512) (w.alloc (.cells (enc zeros) 5)) := by kernel_rfl

section
variable {w : World} {ops : Array Oper} {rest : List Oper} {o : Oper} {a : Act} {Q : Exit → Act → World → Prop}
theorem wpList_make512 (hg : o.guard = none) (hop : o.op = .makeSlice 34 (.const (.int .i64 512)) (.const (.int .i64 512)))
    (h : ∀ w' g, BBlk w' g zeros → w.heap.size ≤ g → Only [] w w' → wpList Try.prog ops Q rest (a.put o.dst (.slice (some ⟨g, 0, none⟩) 512 512)) w') : wpList Try.prog ops Q (o :: rest) a w := by
  refine wpList_plain hg fun K' hK' => ?_
  unfold Oper.wp
  simp [execOp, hop, Act.eval, make_512, Result.andThen]
  exact hK' _ _ (h _ _ (heap_new w _) (Nat.le_refl _) ((Only.refl _ _).alloc _))

theorem wpList_alloc_sector (hg : o.guard = none) (hop : o.op = .alloc 85)
    (h : ∀ w' g, w'.heap[g]? = some (.cells (enc zeros) 85 (0, 0)) → w.heap.size ≤ g → Only [] w w' → wpList Try.prog ops Q rest (a.put o.dst (.pointer (some ⟨g, 0, none⟩))) w') : wpList Try.prog ops Q (o :: rest) a w :=
  wpList_alloc_row hg _ hop _ zero_sector (h _ _ (heap_new w _) (Nat.le_refl _) ((Only.refl _ _).alloc _))

theorem wpList_store_sector {l old : Sec} (hg : o.guard = none) (x y : Operand) (ho : o.op = .store 85 x y) (g : Nat) (hx : a.eval x = .pointer (some ⟨g, 0, none⟩)) (hy : a.eval y = .agg (enc l)) (hl : l.length = 512) (hold : old.length = 512)
    (hg' : w.heap[g]? = some (.cells (enc old) 85 (0, 0)))
    (h : ∀ w', w'.heap[g]? = some (.cells (enc l) 85 (0, 0)) → Only [g] w w' → wpList Try.prog ops Q rest (a.put o.dst undef) w') : wpList Try.prog ops Q (o :: rest) a w :=
  wpList_store_row hg _ x y ho g _ hx hy _ _ hg' (by rw [info_sector]; simp [hl]) (by simp [hl, hold]) (enc_one l) (h _ (heap_row _ hg') ((Only.refl _ _).setRow (by simp) _))

theorem wpList_load_sector {l : Sec} (hg : o.guard = none) (x : Operand) (ho : o.op = .load 85 x) (g : Nat) (hx : a.eval x = .pointer (some ⟨g, 0, none⟩)) (hl : l.length = 512)
    (hg' : w.heap[g]? = some (.cells (enc l) 85 (0, 0)))
    (h : wpList Try.prog ops Q rest (a.put o.dst (.agg (enc l))) w) : wpList Try.prog ops Q (o :: rest) a w :=
  wpList_load_row hg _ x ho g hx _ _ _ _ hg' Try.underlying85 rfl (by rw [info_sector]; simp [hl]) h

theorem wpStill_load_sector {P' : Act → Prop} {l : Sec} (hg : o.guard = none) (x : Operand) (ho : o.op = .load 85 x) (g : Nat) (hx : a.eval x = .pointer (some ⟨g, 0, none⟩)) (hl : l.length = 512)
    (hg' : w.heap[g]? = some (.cells (enc l) 85 (0, 0))) (h : wpStill Try.prog ops w P' rest (a.put o.dst (.agg (enc l)))) : wpStill Try.prog ops w P' (o :: rest) a := by
  refine wpStill_step fun K hK => ?_
  have hw : Region.wanted o (yielded ops a.tmps) = true := by simp [Region.wanted, hg]
  rw [if_pos hw]
  unfold Oper.still execOp
  simp only [ho, hx, Instr.loadAt, Instr.sureAddr, Sem.run_bind, Sem.run_pure, Result.andThen_ok, run_loadVar_row w g _ _ _ _ _ hg' Try.underlying85 rfl (by rw [info_sector]; simp [hl])]
  exact ⟨rfl, hK _ h⟩
end

/-! ### full -/
def byteN (n : Int) : UInt8 := UInt8.ofNat (n % 256).toNat
theorem byteN_val (n : Int) : ((byteN n).toNat : Int) = IntKind.u8.wrap n := by
  have h : IntKind.u8.wrap n = n % 256 := by simp [IntKind.wrap_u8]
  rw [h]
  unfold byteN
  rw [UInt8.toNat_ofNat']
  omega
def fullOf (n : Int) : Sec := List.replicate 512 (byteN n)
theorem fullOf_length (n : Int) : (fullOf n).length = 512 := List.length_replicate ..
/-- The row behind k rounds. -/
def fullTo (n : Int) (k : Nat) : Sec := List.replicate k (byteN n) ++ List.replicate (512 - k) 0
theorem fullTo_zero (n : Int) : fullTo n 0 = zeros := rfl
theorem fullTo_all (n : Int) : fullTo n 512 = fullOf n := List.append_nil _
theorem fullTo_length (n : Int) (k : Nat) (h : k ≤ 512) : (fullTo n k).length = 512 := by simp [fullTo]; omega
theorem fullTo_step (n : Int) (k : Nat) (h : k < 512) : (enc (fullTo n k)).setIfInBounds k (.int .u8 (IntKind.u8.wrap n)) = enc (fullTo n (k + 1)) := by
  apply Array.ext_getElem?
  intro i
  rw [Array.getElem?_setIfInBounds, enc_get, enc_get, enc_size, fullTo_length n k (by omega), ← byteN_val]
  simp only [fullTo]
  by_cases e : k = i
  · subst e
    rw [if_pos rfl, if_pos h, List.getElem?_append_left (by simp)]
    simp
  · rw [if_neg e]
    by_cases hi : i < k
    · rw [List.getElem?_append_left (by simpa using hi), List.getElem?_append_left (by simp; omega)]
      simp [hi, show i < k + 1 by omega]
    · rw [List.getElem?_append_right (by simp; omega), List.getElem?_append_right (by simp; omega)]
      simp only [List.length_replicate, List.getElem?_replicate]
      by_cases h5 : i < 512
      · rw [if_pos (by omega), if_pos (by omega)]
      · rw [if_neg (by omega), if_neg (by omega)]

end Go.Proofs.Ytchljhjngnbclaa
