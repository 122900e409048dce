/- copy of bytes; join. -/
import Derived.Test.YtfnedeaemjchgaaGreatD3
namespace Go.Proofs.YtfnedeaemjchgaaGreat
open Go.RowKit Go.Maps

/-! ### join -/
theorem slice_sector (g n : Nat) (hn : n ≤ 512) (w : World) :
    ∃ q, (n < 512 → q = n) ∧ (Instr.sliceAt 98 (.pointer (some ⟨g, 0, none⟩)) (some (.int .i64 (n : Nat))) none none).run Tryz.prog w = .ok (.slice (some ⟨g, q, none⟩) (512 - n) (512 - n)) w := by
  refine ⟨if 512 = n then 0 else n, fun h => if_neg (by omega), ?_⟩
  simp [Instr.sliceAt, go_sem]
  rw [if_pos (by omega)]
  by_cases e : 512 = n <;> simp [e]

def joinTo (ls : List Sec) (k : Nat) : Sec := (ls.take k).flatten ++ List.replicate (512 - total (ls.take k)) 0
theorem joinTo_zero (ls : List Sec) : joinTo ls 0 = zeros := rfl
theorem joinTo_all (ls : List Sec) (h : total ls = 512) : joinTo ls ls.length = ls.flatten := by simp [joinTo, h]
theorem joinTo_length (ls : List Sec) (k : Nat) (h : total (ls.take k) ≤ 512) : (joinTo ls k).length = 512 := by
  rw [joinTo, List.length_append, ← total_flatten, List.length_replicate]
  omega
theorem joinTo_step (ls : List Sec) (k : Nat) (l : Sec) (hk : ls[k]? = some l) (h : total (ls.take (k + 1)) ≤ 512) : spl (joinTo ls k) (total (ls.take k)) l = joinTo ls (k + 1) := by
  have hs := total_take_succ ls k l hk
  have hf : (ls.take (k + 1)).flatten = (ls.take k).flatten ++ l := by
    rw [List.take_add_one, hk]
    simp
  have hlen : (ls.take k).flatten.length = total (ls.take k) := (total_flatten _).symm
  unfold spl joinTo
  rw [hf, hs, ← hlen, List.take_left, List.drop_append, List.drop_eq_nil_of_le (by omega)]
  simp only [List.nil_append, List.drop_replicate, List.append_assoc]
  congr 3
  omega

set_option maxRecDepth 100000 in
theorem join_any (v : Value) (ls : List Sec) (w : World) (h : Parts w v ls) (hlen : ls.length ≤ 4611686018427387904) (htot : total ls = 512) :
    Calls Tryz.prog 80 #[v] w fun e w' => e = .returned (.agg (enc ls.flatten)) ∧ Only [] w w' := by
  have h' := h
  obtain ⟨a, cap, rfl, _⟩ := h'
  have H := Lib.hid h
  clear h
  have tok1 : True := trivial
  go_enter Tryz.func80, Tryz.ntmps80
  go_wp2_with (first | (have _t := tok1; refine wpList_alloc_sector rfl rfl ?_; intro w0 g hb0 hg0 ho0; clear _t tok1) | (refine wpList_alloc_sector rfl rfl ?_; intro w1 g1 hb1 hg1 ho1))
  have hb0' := ho1.heap hb0 (by simp)
  have ho : Only [] w w1 := ho0.trans ho1 (by simp)
  have hz := ho0.size
  have hne : g ≠ g1 := by have := lt_of_heap hb0; omega
  rw [← joinTo_zero ls] at hb1
  clear ho0 ho1 hb0
  go_loopw [4, 6, 9] (fun en _ i wr => ∃ k : Nat, k ≤ ls.length ∧ i = .int .i64 k ∧ en = .int .i64 (total (ls.take k) : Nat) ∧ wr.heap[g1]? = some (.cells (enc (joinTo ls k)) 98 (0, 0)) ∧ wr.heap[g]? = some (.cells (enc zeros) 98 (0, 0)) ∧ Only [] w wr) (fun _ _ i _ => ls.length - (intOf i).toNat)
  case atStart => exact ⟨0, by omega, rfl, rfl, hb1, hb0', ho⟩
  case round =>
    obtain ⟨k, hk, rfl, rfl, hb, hb2, ho⟩ := hrel
    have hle := total_take_le ls k
    have hjl := joinTo_length ls k (by omega)
    by_cases hlt : k < ls.length
    · have hkl : ls[k]? = some ls[k] := List.getElem?_eq_getElem hlt
      have HB := H.out.kept ho (clean_nil _)
      obtain ⟨b, off, cap1, a', cap', hv, hcell, hbytes⟩ := HB.part hkl
      cases hv
      have hts := total_take_succ ls k _ hkl
      have htl := total_take_le ls (k + 1)
      have hst := joinTo_step ls k _ hkl (by omega)
      have HT := Lib.hid hts
      have HS := Lib.hid hst
      have HY := Lib.hid hbytes
      have HX := Lib.hid hb
      have HZ := Lib.hid hb2
      have HJ := Lib.hid hjl
      clear hts hst HB hbytes hkl hb hb2 hjl
      have hsum : total (ls.take k) + ls[k].length ≤ 512 := by have := HT.out; omega
      obtain ⟨q, hq, hsl⟩ := slice_sector g1 (total (ls.take k)) (by omega) wr
      have HQ := Lib.hid hq
      clear hq
      go_wp2_with (refine wpList_copy_bytes rfl (.tmp 15) (.tmp 16) rfl (joinTo ls k) ls[k] g1 (total (ls.take k)) _ HX.out _ _ _ (by rfl) (fun h0 => by rw [HQ.out (by have := HT.out; omega)]) (by have := HT.out; omega) (by have := HT.out; have := HJ.out; omega) _ (by rfl) HY.out ?_; intro w5 h5 o5)
      have h6 := o5.heap HZ.out (by simpa using hne)
      have o6 : Only [] w w5 := ho.trans o5 (by simp; omega)
      rw [HS.out] at h5
      clear o5
      go_roundw
      case rel => exact ⟨k + 1, by omega, by go_num, by rw [HT.out]; go_num, h5, h6, o6⟩
      case measure => simp [intOf]; omega
    · obtain rfl : k = ls.length := by omega
      rw [joinTo_all ls htot] at hb
      have hfl : ls.flatten.length = 512 := by rw [← total_flatten]; exact htot
      go_wp2_with (first | (refine wpList_load_sector rfl (.tmp 3) rfl g1 (by rfl) hfl hb ?_) | (refine wpList_store_sector rfl (.tmp 2) (.tmp 20) rfl g (by rfl) (by rfl) hfl zeros_length hb2 ?_; intro w5 h5 o5))
      exact bodyPost_ret (results_cell_row rfl _ _ g _ _ _ _ (by rfl) h5 Tryz.underlying98 rfl (by rw [info_sector]; simp [hfl])) rfl ⟨rfl, ho.trans o5 (by simp; omega)⟩
end Go.Proofs.YtfnedeaemjchgaaGreat
