/- The document's own answer for wire: numbers, rows, the check. -/
import Derived.Test.YthacfanfhdjmbaaN4
import Derived.Test.YthacfanfhdjmbaaN8
namespace Go.Proofs.Ythacfanfhdjmbaa
open Go.RowKit Go.Maps
set_option linter.unusedSimpArgs false
set_option linter.unusedVariables false

set_option maxRecDepth 100000 in
theorem Number_any (n : Int) (w : World) (h0 : -9223372036854775808 ≤ n) (h1 : n ≤ 9223372036854775807) :
    Calls Try.prog 32 #[.int .i64 n] w fun e w' => ∃ a cap, e = .returned (.slice a (num n).length cap) ∧ Own w' w.heap.size (.slice a (num n).length cap) (num n) ∧ Only [] w w' := by
  have hten := num_ten h0 h1
  have htl := turnN_lt h0 h1
  unfold num at *
  by_cases hn : n < 0
  · have hu : (-(n + 1)) * 2 + 1 = ((turnN n : Nat) : Int) := by unfold turnN; rw [if_pos hn]; omega
    generalize hu0 : turnN n = u0 at *
    have HU := Lib.hid hu0
    have HU0 := Lib.hid hu
    clear hu0 hu
    go_enter Try.func32, Try.ntmps32
    go_wp2_with fail
    go_loopw [3, 4, 5] (fun u v _ wr => ∃ (l' : Sec) (u' : Nat) (a : Option Addr) (cap : Nat), v = .slice a l'.length cap ∧ u = .int .u64 (u' : Int) ∧ u' < 18446744073709551616 ∧ l' ++ dig u' = dig u0 ∧ Own wr w.heap.size (.slice a l'.length cap) l' ∧ Only [] w wr) (fun u _ _ _ => (intOf u).toNat)
    case atStart => exact ⟨[], u0, none, 0, rfl, by rw [HU0.out], htl, rfl, Own.nil _ _, Only.refl _ _⟩
    case round =>
      obtain ⟨l', u', a, cap, rfl, rfl, hu, hd, hown, ho⟩ := hrel
      have hlen : l'.length + (dig u').length ≤ 10 := by rw [← List.length_append, hd]; exact hten
      have hdp := dig_pos u'
      have hsz := ho.size
      have HD := Lib.hid hd
      have HW := Lib.hid hown
      have HO := Lib.hid ho
      clear hd hown ho
      by_cases hlt : 128 ≤ u'
      · have hdh := dig_high hlt
        have hc1 : (u' : Int) % 128 + 128 = ((UInt8.ofNat (u' % 128 + 128)).toNat : Int) := by
          rw [u8_ofNat (by omega)]
          omega
        have q : ((u' : Int) / 128 == 0) = false := by simp; omega
        have HR := Lib.hid hc1
        have HH := Lib.hid hdh
        clear hdh hc1
        go_wp2_with (
          refine wpList_append_any rfl (.tmp 28) (.tmp 31) rfl w.heap.size _ l' (by rfl) (HW.out.quiet ((Only.refl [] wr).alloc _)) _ [UInt8.ofNat (u' % 128 + 128)] (by rfl) (bytes_one wr _ _ HR.out) (l'.length + 1) (by simp) (l' ++ [UInt8.ofNat (u' % 128 + 128)]) rfl (by omega) (by simp; omega) ?_
          intro a2 cap2 w2 hw2 ho2)
        have hof := Ext.fresh (HO.out.trans ((Only.refl [] wr).alloc _) (by simp)) (HW.out.quiet ((Only.refl [] wr).alloc _)) (Nat.le_refl _) ho2
        exact ⟨⟨l' ++ [UInt8.ofNat (u' % 128 + 128)], u' / 128, a2, cap2, by simp, by simp, by omega, by rw [← HD.out, HH.out]; simp, by simpa using hw2, hof⟩, by simp [intOf]; omega⟩
      · have hdl := dig_low (show u' < 128 by omega)
        have HH := Lib.hid hdl
        have hc1 : (u' : Int) % 128 = ((UInt8.ofNat u').toNat : Int) := by rw [u8_ofNat (by omega)]; omega
        have q : ((u' : Int) / 128 == 0) = true := by simp; omega
        have HR := Lib.hid hc1
        clear hdl hc1
        have hfin : l'.length + 1 = (dig u0).length := by rw [← HD.out, HH.out]; simp
        have HF := Lib.hid hfin
        clear hfin
        go_wp2_with (
          refine wpList_append_any rfl (.tmp 24) (.tmp 26) rfl w.heap.size _ l' (by rfl) (HW.out.quiet ((Only.refl [] wr).alloc _)) _ [UInt8.ofNat u'] (by rfl) (bytes_one wr _ _ HR.out) (dig u0).length (by rw [← HF.out]; simp) (dig u0) (by rw [← HD.out, HH.out]) (by omega) (by simp; omega) ?_
          intro a2 cap2 w2 hw2 ho2)
        have hof := Ext.fresh (HO.out.trans ((Only.refl [] wr).alloc _) (by simp)) (HW.out.quiet ((Only.refl [] wr).alloc _)) (Nat.le_refl _) ho2
        go_ret
        exact ⟨a2, cap2, rfl, hw2, hof⟩
  · have hu : n * 2 = ((turnN n : Nat) : Int) := by unfold turnN; rw [if_neg hn]; omega
    generalize hu0 : turnN n = u0 at *
    have HU := Lib.hid hu0
    have HU0 := Lib.hid hu
    clear hu0 hu
    go_enter Try.func32, Try.ntmps32
    go_wp2_with fail
    go_loopw [3, 4, 5] (fun u v _ wr => ∃ (l' : Sec) (u' : Nat) (a : Option Addr) (cap : Nat), v = .slice a l'.length cap ∧ u = .int .u64 (u' : Int) ∧ u' < 18446744073709551616 ∧ l' ++ dig u' = dig u0 ∧ Own wr w.heap.size (.slice a l'.length cap) l' ∧ Only [] w wr) (fun u _ _ _ => (intOf u).toNat)
    case atStart => exact ⟨[], u0, none, 0, rfl, by rw [HU0.out], htl, rfl, Own.nil _ _, Only.refl _ _⟩
    case round =>
      obtain ⟨l', u', a, cap, rfl, rfl, hu, hd, hown, ho⟩ := hrel
      have hlen : l'.length + (dig u').length ≤ 10 := by rw [← List.length_append, hd]; exact hten
      have hdp := dig_pos u'
      have hsz := ho.size
      have HD := Lib.hid hd
      have HW := Lib.hid hown
      have HO := Lib.hid ho
      clear hd hown ho
      by_cases hlt : 128 ≤ u'
      · have hdh := dig_high hlt
        have hc1 : (u' : Int) % 128 + 128 = ((UInt8.ofNat (u' % 128 + 128)).toNat : Int) := by
          rw [u8_ofNat (by omega)]
          omega
        have q : ((u' : Int) / 128 == 0) = false := by simp; omega
        have HR := Lib.hid hc1
        have HH := Lib.hid hdh
        clear hdh hc1
        go_wp2_with (
          refine wpList_append_any rfl (.tmp 28) (.tmp 31) rfl w.heap.size _ l' (by rfl) (HW.out.quiet ((Only.refl [] wr).alloc _)) _ [UInt8.ofNat (u' % 128 + 128)] (by rfl) (bytes_one wr _ _ HR.out) (l'.length + 1) (by simp) (l' ++ [UInt8.ofNat (u' % 128 + 128)]) rfl (by omega) (by simp; omega) ?_
          intro a2 cap2 w2 hw2 ho2)
        have hof := Ext.fresh (HO.out.trans ((Only.refl [] wr).alloc _) (by simp)) (HW.out.quiet ((Only.refl [] wr).alloc _)) (Nat.le_refl _) ho2
        exact ⟨⟨l' ++ [UInt8.ofNat (u' % 128 + 128)], u' / 128, a2, cap2, by simp, by simp, by omega, by rw [← HD.out, HH.out]; simp, by simpa using hw2, hof⟩, by simp [intOf]; omega⟩
      · have hdl := dig_low (show u' < 128 by omega)
        have HH := Lib.hid hdl
        have hc1 : (u' : Int) % 128 = ((UInt8.ofNat u').toNat : Int) := by rw [u8_ofNat (by omega)]; omega
        have q : ((u' : Int) / 128 == 0) = true := by simp; omega
        have HR := Lib.hid hc1
        clear hdl hc1
        have hfin : l'.length + 1 = (dig u0).length := by rw [← HD.out, HH.out]; simp
        have HF := Lib.hid hfin
        clear hfin
        go_wp2_with (
          refine wpList_append_any rfl (.tmp 24) (.tmp 26) rfl w.heap.size _ l' (by rfl) (HW.out.quiet ((Only.refl [] wr).alloc _)) _ [UInt8.ofNat u'] (by rfl) (bytes_one wr _ _ HR.out) (dig u0).length (by rw [← HF.out]; simp) (dig u0) (by rw [← HD.out, HH.out]) (by omega) (by simp; omega) ?_
          intro a2 cap2 w2 hw2 ho2)
        have hof := Ext.fresh (HO.out.trans ((Only.refl [] wr).alloc _) (by simp)) (HW.out.quiet ((Only.refl [] wr).alloc _)) (Nat.le_refl _) ho2
        go_ret
        exact ⟨a2, cap2, rfl, hw2, hof⟩

theorem ref_half (x : Nat) (hx : x < 4294967296) (h : x % 2 = 1) : bits .xor .u32 ((x : Int) / 2) 3988292384 = ((sh1 x : Nat) : Int) := by
  have := xor_u32 (x / 2) poly (by omega) (by decide)
  unfold sh1
  rw [if_pos h, ← this]
  rfl
set_option maxRecDepth 100000 in
set_option maxHeartbeats 1600000 in
theorem RCheck_any (v : Value) (l : Sec) (w : World) (hv : Bytes w v l) (hl : l.length ≤ 4611686018427387904) :
    Calls Try.prog 43 #[v] w fun e w' => e = .returned (.int .u32 (crc l : Nat)) ∧ w = w' := by
  have HV := Lib.hid hv
  obtain ⟨va, vc, rfl, -⟩ := id hv
  clear hv
  go_enter Try.func43, Try.ntmps43
  go_wp2_with fail
  go_loop [3, 4, 5] (fun r i _ => ∃ j : Nat, j ≤ l.length ∧ i = .int .i64 j ∧ r = .int .u32 (crcTo 4294967295 (l.take j) : Nat)) (fun _ i _ => l.length - (intOf i).toNat)
  case atStart => exact ⟨0, by omega, rfl, rfl⟩
  case round =>
    obtain ⟨j, hj, rfl, rfl⟩ := hrel
    by_cases hlj : j < l.length
    · have hjl : l[j]? = some l[j] := List.getElem?_eq_getElem hlj
      have HT := Lib.hid (take_snoc l j _ hjl)
      obtain ⟨a2, c2, hv2, hcs⟩ := HV.out
      cases hv2
      obtain ⟨b2, off2, rfl, hcell⟩ := hcs j _ hjl
      clear hcs hjl
      generalize l[j] = c at *
      have hx : crcTo 4294967295 (l.take j) < 4294967296 := crcTo_lt _ _ (by decide)
      have hst := crcTo_snoc 4294967295 (l.take j) c
      rw [← HT.out] at hst
      generalize crcTo 4294967295 (l.take j) = x at *
      have hc0 := c.toNat_lt
      have hxc := xor_u32 x c.toNat hx (by omega)
      have hxl : x ^^^ c.toNat < 4294967296 := Nat.xor_lt_two_pow (n := 32) hx (by omega)
      have HX := Lib.hid hxc
      have HS := Lib.hid hst
      clear hxc hst
      go_wp2_with fail
      rw [HX.out]
      generalize x ^^^ c.toNat = r at *
      clear hcell
      go_loop [3, 5] (fun y i => ∃ k : Nat, k ≤ 8 ∧ i = .int .i64 k ∧ y = .int .u32 (shN k r : Nat)) (fun _ i => 8 - (intOf i).toNat)
      case atStart => exact ⟨0, by omega, rfl, rfl⟩
      case round =>
        obtain ⟨k, hk, rfl, rfl⟩ := hrel
        by_cases hlt : k < 8
        · have hy : shN k r < 4294967296 := shN_lt hxl k
          have hs : shN (k + 1) r = sh1 (shN k r) := rfl
          generalize shN k r = y at *
          have HS2 := Lib.hid hs
          clear hs
          by_cases h : y % 2 = 1
          · have h2 : ((y : Int) % 2 == 1) = true := by simp; omega
            have H3 := Lib.hid (ref_half y hy h)
            clear h
            go_wp2_with fail
            go_round
            case rel => exact ⟨k + 1, by omega, by go_num, by rw [HS2.out, H3.out]⟩
            case measure => simp [intOf]; omega
          · have h2 : ((y : Int) % 2 == 1) = false := by simp; omega
            have h3 : (y : Int) / 2 = ((sh1 y : Nat) : Int) := by
              unfold sh1
              rw [if_neg h]
              omega
            have H3 := Lib.hid h3
            clear h h3
            go_wp2_with fail
            go_round
            case rel => exact ⟨k + 1, by omega, by go_num, by rw [HS2.out, H3.out]⟩
            case measure => simp [intOf]; omega
        · obtain rfl : k = 8 := by omega
          have hs8 : shN 8 r = sh8 r := rfl
          rw [hs8]
          clear hs8
          go_wp2_with fail
          go_round
          case rel => exact ⟨j + 1, by omega, by go_num, by rw [HS.out]⟩
          case measure => simp [intOf]; omega
    · obtain rfl : j = l.length := by omega
      have hx : crcTo 4294967295 l < 4294967296 := crcTo_lt _ _ (by decide)
      have hn := not_u32' (crcTo 4294967295 l : Nat) (by omega) (by omega)
      have HN := Lib.hid hn
      clear hn
      rw [List.take_length]
      go_wp2_with fail
      go_ret
      exact ⟨ret_u32 (by rw [HN.out]; unfold crc; omega), rfl⟩
end Go.Proofs.Ythacfanfhdjmbaa
