/- wire: the check. -/
import Derived.Test.YtfnedeaemjchgaaGreatB2
import Derived.Test.YtfnedeaemjchgaaGreatM3
import Derived.Test.YtfnedeaemjchgaaGreatN0
namespace Go.Proofs.YtfnedeaemjchgaaGreat
open Go.RowKit Go.Maps
set_option linter.unusedSimpArgs false
set_option linter.unusedVariables false

theorem xor_u32 (a b : Nat) (ha : a < 4294967296) (hb : b < 4294967296) : bits .xor .u32 (a : Int) (b : Int) = ((a ^^^ b : Nat) : Int) := bits_xor_nat .u32 32 rfl wraps_u32 a b ha hb
theorem ret_u32 {a b : Int} (h : a = b) : Ending.returned (.int .u32 a) = .returned (.int .u32 b) := by rw [h]

set_option maxRecDepth 100000 in
theorem shift_any (r : Nat) (w : World) (hr : r < 4294967296) : Calls Tryz.prog 96 #[.int .u32 r] w fun e w' => e = .returned (.int .u32 (sh8 r : Nat)) ∧ w = w' := by
  go_enter Tryz.func96, Tryz.ntmps96
  go_wp2_with fail
  go_loop [0, 3] (fun x c => ∃ k : Nat, k ≤ 8 ∧ c = .int .i64 k ∧ x = .int .u32 (shN k r : Nat)) (fun _ c => 8 - (intOf c).toNat)
  case atStart => exact ⟨0, by omega, rfl, rfl⟩
  case round =>
    obtain ⟨k, hk, rfl, rfl⟩ := hrel
    by_cases hlt : k < 8
    · have hx : shN k r < 4294967296 := shN_lt hr k
      have hs : shN (k + 1) r = sh1 (shN k r) := rfl
      generalize shN k r = x at *
      have e1 := and1_u32 (x : Int) (by omega) (by omega)
      have HS := Lib.hid hs
      clear hs
      by_cases h : x % 2 = 1
      · have h2 : (bits .and .u32 (x : Int) 1 == 1) = true := by rw [e1]; simp; omega
        have h3 : bits .xor .u32 ((x : Int) / 2) 3988292384 = ((sh1 x : Nat) : Int) := by
          have := xor_u32 (x / 2) poly (by omega) (by decide)
          unfold sh1
          rw [if_pos h, ← this]
          rfl
        have H3 := Lib.hid h3
        clear e1 h h3
        go_wp2_with fail
        go_round
        case rel => exact ⟨k + 1, by omega, by go_num, by rw [HS.out, H3.out]⟩
        case measure => simp [intOf]; omega
      · have h2 : (bits .and .u32 (x : Int) 1 == 1) = false := by rw [e1]; simp; omega
        have h3 : (x : Int) / 2 = ((sh1 x : Nat) : Int) := by
          unfold sh1
          rw [if_neg h]
          omega
        have H3 := Lib.hid h3
        clear e1 h h3
        go_wp2_with fail
        go_round
        case rel => exact ⟨k + 1, by omega, by go_num, by rw [HS.out, H3.out]⟩
        case measure => simp [intOf]; omega
    · obtain rfl : k = 8 := by omega
      go_wp2_with fail
      go_ret
      exact ⟨rfl, rfl⟩

/-- The parts' bytes up to the k-th part's j-th byte. -/
theorem flat_take_succ (ls : List Sec) (k : Nat) (l : Sec) (h : ls[k]? = some l) : (ls.take (k + 1)).flatten = (ls.take k).flatten ++ l := by
  rw [List.take_add_one, h]
  simp
theorem take_snoc (l : Sec) (j : Nat) (c : UInt8) (h : l[j]? = some c) : l.take (j + 1) = l.take j ++ [c] := by rw [List.take_add_one, h]; rfl

set_option maxRecDepth 100000 in
set_option maxHeartbeats 1600000 in
theorem Check_any (v : Value) (ls : List Sec) (w : World) (h : Parts w v ls) (hlen : ls.length ≤ 4611686018427387904) (hmax : ∀ l ∈ ls, l.length ≤ 4611686018427387904) :
    Calls Tryz.prog 85 #[v] w fun e w' => e = .returned (.int .u32 (crc ls.flatten : Nat)) ∧ w = w' := by
  have HP := Lib.hid h
  obtain ⟨va, vc, rfl, -⟩ := id h
  have HM := Lib.hid hmax
  clear h hmax
  go_enter Tryz.func85, Tryz.ntmps85
  go_wp2_with fail
  go_loop [3, 5, 7, 10] (fun r _ _ i => ∃ k : Nat, k ≤ ls.length ∧ i = .int .i64 k ∧ r = .int .u32 (crcTo 4294967295 (ls.take k).flatten : Nat)) (fun _ _ _ i => ls.length - (intOf i).toNat)
  case atStart => exact ⟨0, by omega, rfl, rfl⟩
  case round =>
    obtain ⟨k, hk, rfl, rfl⟩ := hrel
    by_cases hlt : k < ls.length
    · have hkl : ls[k]? = some ls[k] := List.getElem?_eq_getElem hlt
      have hm := HM.out _ (List.mem_of_getElem? hkl)
      have HF := Lib.hid (flat_take_succ ls k _ hkl)
      obtain ⟨b, off, cap, a', cap', hv, hcell, hbytes⟩ := HP.out.part hkl
      cases hv
      clear hkl
      generalize ls[k] = l at *
      have HB := Lib.hid hbytes
      have hs0 : crcTo 4294967295 (ls.take k).flatten < 4294967296 := crcTo_lt _ _ (by decide)
      generalize hr0 : crcTo 4294967295 (ls.take k).flatten = r0 at *
      have HR := Lib.hid hr0
      clear hbytes hr0
      go_wp2_with fail
      clear hcell
      go_loop [3, 7, 16] (fun r _ i => ∃ j : Nat, j ≤ l.length ∧ i = .int .i64 j ∧ r = .int .u32 (crcTo r0 (l.take j) : Nat)) (fun _ _ i => l.length - (intOf i).toNat)
      case atStart => exact ⟨0, by omega, rfl, rfl⟩
      case round =>
        obtain ⟨j, hj, rfl, rfl⟩ := hrel
        by_cases hlj : j < l.length
        · have hjl : l[j]? = some l[j] := List.getElem?_eq_getElem hlj
          have HT := Lib.hid (take_snoc l j _ hjl)
          obtain ⟨a2, c2, hv2, hcs⟩ := HB.out
          cases hv2
          obtain ⟨b2, off2, rfl, hcell⟩ := hcs j _ hjl
          clear hcs hjl
          generalize l[j] = c at *
          have hx : crcTo r0 (l.take j) < 4294967296 := crcTo_lt _ _ hs0
          have hst := crcTo_snoc r0 (l.take j) c
          rw [← HT.out] at hst
          generalize crcTo r0 (l.take j) = x at *
          have hc0 := c.toNat_lt
          have hxc := xor_u32 x c.toNat hx (by omega)
          have hxl : x ^^^ c.toNat < 4294967296 := Nat.xor_lt_two_pow (n := 32) hx (by omega)
          have HX := Lib.hid hxc
          have HS := Lib.hid hst
          clear hxc hst
          go_wp2_with fail
          rw [HX.out]
          refine (shift_any _ w hxl).mono ?_
          rintro e w1 ⟨rfl, rfl⟩
          clear hcell
          go_wp2_with fail
          go_round
          case rel => exact ⟨j + 1, by omega, by go_num, by rw [HS.out]⟩
          case measure => simp [intOf]; omega
        · obtain rfl : j = l.length := by omega
          go_wp2_with fail
          go_round
          case rel => exact ⟨k + 1, by omega, by go_num, by rw [HF.out, crcTo_append, HR.out, List.take_length]⟩
          case measure => simp [intOf]; omega
    · obtain rfl : k = ls.length := by omega
      have hx : crcTo 4294967295 ls.flatten < 4294967296 := crcTo_lt _ _ (by decide)
      have hn := not_u32 (crcTo 4294967295 ls.flatten : Nat) (by omega) (by omega)
      have HN := Lib.hid hn
      clear hn
      rw [List.take_length]
      go_wp2_with fail
      go_ret
      exact ⟨ret_u32 (by rw [HN.out]; unfold crc; omega), rfl⟩
end Go.Proofs.YtfnedeaemjchgaaGreat
