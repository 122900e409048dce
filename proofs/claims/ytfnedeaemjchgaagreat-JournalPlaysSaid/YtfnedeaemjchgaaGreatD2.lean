/- Rows of bytes in memory, and the functions that make, count and join them. -/
import Derived.Test.YtfnedeaemjchgaaGreatD1
namespace Go.Proofs.YtfnedeaemjchgaaGreat
open Go.RowKit Go.Maps

/-- No byte and no slice lies in a device's struct; no cell at all in a map. -/
theorem cell_apart {w : World} {p : Nat} {m : Met} {size : Int} {bn bs : Nat} (h : DBlk w p m size bn bs) {ad : Addr} {v : Value} (hc : w.cell? ad = some v) (hv : (∃ c : Int, v = .int .u8 c) ∨ ∃ a n c, v = .slice a n c) : ad.block ≠ p := by
  intro e
  unfold World.cell? at hc
  rw [e, show w.heap[p]? = _ from h] at hc
  dsimp only at hc
  split at hc
  · cases hc
  · rename_i hs
    have hm : v ∈ m.cells size bn bs := by
      rw [Array.mem_iff_getElem?]
      exact ⟨_, hc⟩
    simp [Met.cells] at hm
    rcases hv with ⟨c, rfl⟩ | ⟨a, n, c, rfl⟩ <;> simp at hm

/-! ### closed facts -/
theorem zero_sector (w : World) : (zeroValue 98).run Tryz.prog w = .ok (.agg (enc zeros)) w := by kernel_rfl
theorem info_sector : (Tryz.prog.info? 98).map (·.size) = some 512 := by kernel_rfl
theorem make_512 (w : World) : (Instr.makeSlice 27 (.int .i64 512) (.int .i64 512)).run Tryz.prog w = .ok (.slice (some ⟨w.heap.size, 0, none⟩) 512 512) (w.alloc (.cells (enc zeros) 5)) := by kernel_rfl

section
variable {w : World} {ops : Array Oper} {rest : List Oper} {o : Oper} {a : Act} {Q : Exit → Act → World → Prop}
theorem wpList_make512 (hg : o.guard = none) (hop : o.op = .makeSlice 27 (.const (.int .i64 512)) (.const (.int .i64 512)))
    (h : ∀ w' g, BBlk w' g zeros → w.heap.size ≤ g → Only [] w w' → wpList Tryz.prog ops Q rest (a.put o.dst (.slice (some ⟨g, 0, none⟩) 512 512)) w') : wpList Tryz.prog ops Q (o :: rest) a w := by
  refine wpList_plain hg fun K' hK' => ?_
  unfold Oper.wp
  simp [execOp, hop, Act.eval, make_512, Result.andThen]
  exact hK' _ _ (h _ _ (heap_new w _) (Nat.le_refl _) ((Only.refl _ _).alloc _))

theorem wpList_alloc_sector (hg : o.guard = none) (hop : o.op = .alloc 98)
    (h : ∀ w' g, w'.heap[g]? = some (.cells (enc zeros) 98 (0, 0)) → w.heap.size ≤ g → Only [] w w' → wpList Tryz.prog ops Q rest (a.put o.dst (.pointer (some ⟨g, 0, none⟩))) w') : wpList Tryz.prog ops Q (o :: rest) a w :=
  wpList_alloc_row hg _ hop _ zero_sector (h _ _ (heap_new w _) (Nat.le_refl _) ((Only.refl _ _).alloc _))

theorem wpList_store_sector {l old : Sec} (hg : o.guard = none) (x y : Operand) (ho : o.op = .store 98 x y) (g : Nat) (hx : a.eval x = .pointer (some ⟨g, 0, none⟩)) (hy : a.eval y = .agg (enc l)) (hl : l.length = 512) (hold : old.length = 512)
    (hg' : w.heap[g]? = some (.cells (enc old) 98 (0, 0)))
    (h : ∀ w', w'.heap[g]? = some (.cells (enc l) 98 (0, 0)) → Only [g] w w' → wpList Tryz.prog ops Q rest (a.put o.dst undef) w') : wpList Tryz.prog ops Q (o :: rest) a w :=
  wpList_store_row hg _ x y ho g _ hx hy _ _ hg' (by rw [info_sector]; simp [hl]) (by simp [hl, hold]) (enc_one l) (h _ (heap_row _ hg') ((Only.refl _ _).setRow (by simp) _))

theorem wpList_load_sector {l : Sec} (hg : o.guard = none) (x : Operand) (ho : o.op = .load 98 x) (g : Nat) (hx : a.eval x = .pointer (some ⟨g, 0, none⟩)) (hl : l.length = 512)
    (hg' : w.heap[g]? = some (.cells (enc l) 98 (0, 0)))
    (h : wpList Tryz.prog ops Q rest (a.put o.dst (.agg (enc l))) w) : wpList Tryz.prog ops Q (o :: rest) a w :=
  wpList_load_row hg _ x ho g hx _ _ _ _ hg' Tryz.underlying98 rfl (by rw [info_sector]; simp [hl]) h

theorem wpStill_load_sector {P' : Act → Prop} {l : Sec} (hg : o.guard = none) (x : Operand) (ho : o.op = .load 98 x) (g : Nat) (hx : a.eval x = .pointer (some ⟨g, 0, none⟩)) (hl : l.length = 512)
    (hg' : w.heap[g]? = some (.cells (enc l) 98 (0, 0))) (h : wpStill Tryz.prog ops w P' rest (a.put o.dst (.agg (enc l)))) : wpStill Tryz.prog ops w P' (o :: rest) a := by
  refine wpStill_step fun K hK => ?_
  have hw : Region.wanted o (yielded ops a.tmps) = true := by simp [Region.wanted, hg]
  rw [if_pos hw]
  unfold Oper.still execOp
  simp only [ho, hx, Instr.loadAt, Instr.sureAddr, Sem.run_bind, Sem.run_pure, Result.andThen_ok, run_loadVar_row w g _ _ _ _ _ hg' Tryz.underlying98 rfl (by rw [info_sector]; simp [hl])]
  exact ⟨rfl, hK _ h⟩
end

/-! ### full -/
def byteN (n : Int) : UInt8 := UInt8.ofNat (n % 256).toNat
theorem byteN_val (n : Int) : ((byteN n).toNat : Int) = IntKind.u8.wrap n := by
  have h : IntKind.u8.wrap n = n % 256 := by simp [IntKind.wrap_u8]
  rw [h]
  unfold byteN
  rw [UInt8.toNat_ofNat']
  omega
def fullOf (n : Int) : Sec := List.replicate 512 (byteN n)
theorem fullOf_length (n : Int) : (fullOf n).length = 512 := List.length_replicate ..
/-- The row behind k rounds. -/
def fullTo (n : Int) (k : Nat) : Sec := List.replicate k (byteN n) ++ List.replicate (512 - k) 0
theorem fullTo_zero (n : Int) : fullTo n 0 = zeros := rfl
theorem fullTo_all (n : Int) : fullTo n 512 = fullOf n := List.append_nil _
theorem fullTo_length (n : Int) (k : Nat) (h : k ≤ 512) : (fullTo n k).length = 512 := by simp [fullTo]; omega
theorem fullTo_step (n : Int) (k : Nat) (h : k < 512) : (enc (fullTo n k)).setIfInBounds k (.int .u8 (IntKind.u8.wrap n)) = enc (fullTo n (k + 1)) := by
  apply Array.ext_getElem?
  intro i
  rw [Array.getElem?_setIfInBounds, enc_get, enc_get, enc_size, fullTo_length n k (by omega), ← byteN_val]
  simp only [fullTo]
  by_cases e : k = i
  · subst e
    rw [if_pos rfl, if_pos h, List.getElem?_append_left (by simp)]
    simp
  · rw [if_neg e]
    by_cases hi : i < k
    · rw [List.getElem?_append_left (by simpa using hi), List.getElem?_append_left (by simp; omega)]
      simp [hi, show i < k + 1 by omega]
    · rw [List.getElem?_append_right (by simp; omega), List.getElem?_append_right (by simp; omega)]
      simp only [List.length_replicate, List.getElem?_replicate]
      by_cases h5 : i < 512
      · rw [if_pos (by omega), if_pos (by omega)]
      · rw [if_neg (by omega), if_neg (by omega)]

end Go.Proofs.YtfnedeaemjchgaaGreat
