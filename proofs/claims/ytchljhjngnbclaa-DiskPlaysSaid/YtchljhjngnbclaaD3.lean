/- What makes, counts and joins rows of bytes: full, fill, join. -/
import Derived.Test.YtchljhjngnbclaaD2
namespace Go.Proofs.Ytchljhjngnbclaa
open Go.RowKit Go.Maps

set_option maxRecDepth 100000 in
theorem full_any (n : Int) (w : World) :
    Calls Try.prog 25 #[.int .i64 n] w fun e w' => ∃ g, e = .returned (.slice (some ⟨g, 0, none⟩) 512 512) ∧ BBlk w' g (fullOf n) ∧ w.heap.size ≤ g ∧ Only [] w w' := by
  go_enter Try.func25, Try.ntmps25
  go_wp2_with (refine wpList_make512 rfl rfl ?_; intro w1 g hb1 hg1 ho1)
  rw [← fullTo_zero n] at hb1
  go_loopw [4, 8] (fun _ i wr => ∃ k : Nat, k ≤ 512 ∧ i = .int .i64 k ∧ BBlk wr g (fullTo n k) ∧ Only [] w wr) (fun _ i _ => 512 - (intOf i).toNat)
  case atStart => exact ⟨0, by omega, rfl, hb1, ho1⟩
  case round =>
    obtain ⟨k, hk, rfl, hb, ho⟩ := hrel
    by_cases hlt : k < 512
    · have hlen := fullTo_length n k hk
      have hc : ∃ c, wr.cell? ⟨g, k, none⟩ = some c := ⟨_, hb.cell (List.getElem?_eq_getElem (by omega))⟩
      obtain ⟨c, hc⟩ := hc
      have hf : wr.frozen? ⟨g, k, none⟩ = false := free_at k hb
      have hb' : BBlk (wr.setCell ⟨g, k, none⟩ (.int .u8 (IntKind.u8.wrap n))) g (fullTo n (k + 1)) := by
        have := heap_cell (i := k) (.int .u8 (IntKind.u8.wrap n)) hb
        rw [fullTo_step n k hlt] at this
        exact this
      have ho' : Only [] w (wr.setCell ⟨g, k, none⟩ (.int .u8 (IntKind.u8.wrap n))) := ho.setCell (Or.inr hg1) _
      clear hb ho hlen
      go_wp2
      go_roundw
      case rel => exact ⟨k + 1, by omega, by go_num, hb', ho'⟩
      case measure => simp [intOf]; omega
    · obtain rfl : k = 512 := by omega
      rw [fullTo_all] at hb
      go_wp2
      go_ret
      exact ⟨g, rfl, hb, hg1, ho⟩

/-! ### fill -/
def total : List Sec → Nat
  | [] => 0
  | l :: r => l.length + total r
theorem total_flatten : ∀ ls : List Sec, total ls = ls.flatten.length
  | [] => rfl
  | l :: r => by simp [total, total_flatten r]
theorem total_take_succ : ∀ (ls : List Sec) (k : Nat) (l : Sec), ls[k]? = some l → total (ls.take (k + 1)) = total (ls.take k) + l.length
  | [], k, l, h => by simp at h
  | x :: r, 0, l, h => by simp at h; subst h; simp [total]
  | x :: r, k + 1, l, h => by
    have ih := total_take_succ r k l (by simpa using h)
    simp only [List.take_succ_cons, total, ih]
    omega
theorem total_take_le : ∀ (ls : List Sec) (k : Nat), total (ls.take k) ≤ total ls
  | [], k => by simp [total]
  | l :: r, 0 => by simp [total]
  | l :: r, k + 1 => by
    have := total_take_le r k
    simp only [List.take_succ_cons, total]
    omega
theorem ret_bool {a b : Bool} (h : a = b) : Ending.returned (.bool a) = .returned (.bool b) := by rw [h]

/-- One part of a slice of parts. -/
theorem Parts.part {w : World} {v : Value} {ls : List Sec} (h : Parts w v ls) {k : Nat} {l : Sec} (hk : ls[k]? = some l) :
    ∃ b off cap a' cap', v = .slice (some ⟨b, off, none⟩) ls.length cap ∧ w.cell? ⟨b, off + k, none⟩ = some (.slice a' l.length cap') ∧ Bytes w (.slice a' l.length cap') l := by
  obtain ⟨a, cap, hv, hc⟩ := h
  obtain ⟨b, off, s, ha, hcell, hb⟩ := hc k l hk
  obtain ⟨a', cap', hs, hc'⟩ := hb
  subst ha; subst hs
  exact ⟨b, off, cap, a', cap', hv, hcell, a', cap', rfl, hc'⟩

set_option maxRecDepth 100000 in
theorem fill_any (v : Value) (ls : List Sec) (w : World) (h : Parts w v ls) (hlen : ls.length ≤ 4611686018427387904) (hmax : ∀ l ∈ ls, l.length ≤ 9223372036854775807) :
    Calls Try.prog 41 #[v] w fun e w' => e = .returned (.bool (decide (total ls = 512))) ∧ w = w' := by
  have h' := h
  obtain ⟨a, cap, rfl, _⟩ := h'
  have H := Lib.hid h
  clear h
  go_enter Try.func41, Try.ntmps41
  go_wp2
  go_loop [3, 5, 8] (fun lf _ i => ∃ k : Nat, k ≤ ls.length ∧ i = .int .i64 k ∧ total (ls.take k) ≤ 512 ∧ lf = .int .i64 ((512 : Int) - total (ls.take k))) (fun _ _ i => ls.length - (intOf i).toNat)
  case atStart => exact ⟨0, by omega, rfl, by simp [total], by simp [total]⟩
  case round =>
    obtain ⟨k, hk, rfl, ht, rfl⟩ := hrel
    by_cases hlt : k < ls.length
    · have hkl : ls[k]? = some ls[k] := List.getElem?_eq_getElem hlt
      obtain ⟨b, off, cap1, a', cap', hv, hcell, _⟩ := H.out.part hkl
      cases hv
      have hts := total_take_succ ls k _ hkl
      have hm := hmax ls[k] (List.getElem_mem hlt)
      have htl := total_take_le ls (k + 1)
      have HM := Lib.hid hmax
      have HT := Lib.hid hts
      clear hmax hts
      by_cases hbig : (512 : Int) - total (ls.take k) < (ls[k].length : Int)
      · go_wp2
        go_ret
        exact ⟨ret_bool (by have := HT.out; simp; omega), rfl⟩
      · go_wp2
        go_round
        case rel => exact ⟨k + 1, by omega, by go_num, by have := HT.out; omega, by rw [HT.out]; congr 1; omega⟩
        case measure => simp [intOf]; omega
    · obtain rfl : k = ls.length := by omega
      rw [List.take_length] at ht ⊢
      go_wp2
      go_ret
      exact ⟨ret_bool (by rw [Bool.eq_iff_iff]; simp; omega), rfl⟩

end Go.Proofs.Ytchljhjngnbclaa
