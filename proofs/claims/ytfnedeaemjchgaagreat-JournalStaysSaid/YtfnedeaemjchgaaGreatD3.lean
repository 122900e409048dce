/- What makes, counts and joins rows of bytes: full, fill, join. -/
import Derived.Test.YtfnedeaemjchgaaGreatD2
namespace Go.Proofs.YtfnedeaemjchgaaGreat
open Go.RowKit Go.Maps

set_option maxRecDepth 100000 in
theorem fill_any (v : Value) (ls : List Sec) (w : World) (h : Parts w v ls) (hlen : ls.length ≤ 4611686018427387904) (hmax : ∀ l ∈ ls, l.length ≤ 9223372036854775807) :
    Calls Tryz.prog 79 #[v] w fun e w' => e = .returned (.bool (decide (total ls = 512))) ∧ w = w' := by
  have h' := h
  obtain ⟨a, cap, rfl, _⟩ := h'
  have H := Lib.hid h
  clear h
  go_enter Tryz.func79, Tryz.ntmps79
  go_wp2
  go_loop [3, 5, 8] (fun lf _ i => ∃ k : Nat, k ≤ ls.length ∧ i = .int .i64 k ∧ total (ls.take k) ≤ 512 ∧ lf = .int .i64 ((512 : Int) - total (ls.take k))) (fun _ _ i => ls.length - (intOf i).toNat)
  case atStart => exact ⟨0, by omega, rfl, by simp [total], by simp [total]⟩
  case round =>
    obtain ⟨k, hk, rfl, ht, rfl⟩ := hrel
    by_cases hlt : k < ls.length
    · have hkl : ls[k]? = some ls[k] := List.getElem?_eq_getElem hlt
      obtain ⟨b, off, cap1, a', cap', hv, hcell, _⟩ := H.out.part hkl
      cases hv
      have hts := total_take_succ ls k _ hkl
      have hm := hmax ls[k] (List.getElem_mem hlt)
      have htl := total_take_le ls (k + 1)
      have HM := Lib.hid hmax
      have HT := Lib.hid hts
      clear hmax hts
      by_cases hbig : (512 : Int) - total (ls.take k) < (ls[k].length : Int)
      · go_wp2
        go_ret
        exact ⟨ret_bool (by have := HT.out; simp; omega), rfl⟩
      · go_wp2
        go_round
        case rel => exact ⟨k + 1, by omega, by go_num, by have := HT.out; omega, by rw [HT.out]; congr 1; omega⟩
        case measure => simp [intOf]; omega
    · obtain rfl : k = ls.length := by omega
      rw [List.take_length] at ht ⊢
      go_wp2
      go_ret
      exact ⟨ret_bool (by rw [Bool.eq_iff_iff]; simp; omega), rfl⟩

end Go.Proofs.YtfnedeaemjchgaaGreat
