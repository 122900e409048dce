/- page: the document's Encode. -/
import Derived.Test.YthacfanfhdjmbaaPBk1
namespace Go.Proofs.Ythacfanfhdjmbaa
open Go.RowKit Go.Maps
set_option linter.unusedSimpArgs false
set_option linter.unusedVariables false

theorem cb_u64 (z : Int) (j : Nat) (hj : j < 8) : z % 18446744073709551616 / 2 ^ (8 * (7 - j)) % 256 = ((cb z j).toNat : Int) := by
  rw [cb_nat, Int.toNat_of_nonneg (by omega)]
  match j, hj with
  | 0, _ => show z % 18446744073709551616 / 72057594037927936 % 256 = z / 72057594037927936 % 256; omega
  | 1, _ => show z % 18446744073709551616 / 281474976710656 % 256 = z / 281474976710656 % 256; omega
  | 2, _ => show z % 18446744073709551616 / 1099511627776 % 256 = z / 1099511627776 % 256; omega
  | 3, _ => show z % 18446744073709551616 / 4294967296 % 256 = z / 4294967296 % 256; omega
  | 4, _ => show z % 18446744073709551616 / 16777216 % 256 = z / 16777216 % 256; omega
  | 5, _ => show z % 18446744073709551616 / 65536 % 256 = z / 65536 % 256; omega
  | 6, _ => show z % 18446744073709551616 / 256 % 256 = z / 256 % 256; omega
  | 7, _ => show z % 18446744073709551616 / 1 % 256 = z / 1 % 256; omega

set_option maxRecDepth 100000 in
set_option maxHeartbeats 1600000 in
theorem REncode_any (n : Int) (c : List Int) (w : World) (hp : PForm n c) :
    Calls Try.prog 15 #[.agg (ivA (n :: c))] w fun e w' => ∃ a cap, e = .returned (.slice a 512 cap) ∧ Own w' w.heap.size (.slice a 512 cap) (penc n c) ∧ Only [] w w' := by
  have HP := Lib.hid hp
  have hc := hp.len
  have hnl : (num n).length ≤ 10 := num_ten hp.num.1 hp.num.2
  have hn0 := hp.num.1
  have hn1 := hp.num.2
  have HZ : Hid (num n ++ cut c 0 0 = num n) := Lib.hid (by rw [cut_zero, List.append_nil])
  have HA : Hid (num n ++ cut c 60 0 = pin n c) := Lib.hid (by unfold pin; rw [← cut_all c, hc])
  clear hp
  go_enter Try.func15, Try.ntmps15
  go_wp2_with (refine wpList_box_page rfl _ rfl (n :: c) (by rfl) ?_; intro w1 g1 hb1 hg1 ho1; have hcn : w1.cell? ⟨g1, 0, none⟩ = some (.int .i64 n) := hb1.cell rfl; have HB1 := Lib.hid hb1; have HO1 := Lib.hid ho1; clear hb1 hg1 ho1)
  refine (Number_any n w1 hn0 hn1).mono ?_
  rintro e w2 ⟨a2, c2, rfl, h2, o2⟩
  have HB2 := Lib.hid (HB1.out.kept o2 (by simp))
  have HO2 := Lib.hid (HO1.out.trans o2 (by simp))
  have HV2 := Lib.hid (h2.mono HO1.out.size)
  rw [← HZ.out] at HV2
  clear h2 o2 hcn HB1 HO1 hn0 hn1
  go_wp2_with fail
  go_loopw [3, 4, 5, 6] (fun s i _ _ wr => ∃ k : Nat, k ≤ 60 ∧ i = .int .i64 k ∧ Own wr w.heap.size s (num n ++ cut c k 0) ∧ PB wr g1 27 (n :: c) ∧ Only [] w wr) (fun _ i _ _ _ => 60 - (intOf i).toNat)
  case atStart => exact ⟨0, by omega, rfl, by have := HV2.out; rw [HZ.out] at this ⊢; exact this, HB2.out, HO2.out⟩
  case round =>
    clear HV2 HB2 HO2
    obtain ⟨k, hk, rfl, hs, hb, ho⟩ := hrel
    by_cases hlt : k < 60
    · have hck : c[k]? = some (c.getD k 0) := by rw [List.getD_eq_getElem?_getD, List.getElem?_eq_getElem (by omega)]; rfl
      have hcell : wr.cell? ⟨g1, 1 + k, none⟩ = some (.int .i64 (c.getD k 0)) := hb.cell (by rw [Nat.add_comm, List.getElem?_cons_succ]; exact hck)
      have hrow := cut_row c k (by omega)
      have hstep : ∀ j, j < 8 → cut c k (j + 1) = cut c k j ++ [cb (c.getD k 0) j] := cut_step c k
      obtain ⟨z, hzd⟩ : ∃ z, z = c.getD k 0 := ⟨_, rfl⟩
      rw [← hzd] at hcell hstep
      have hw64 : IntKind.u64.wrap z = z % 18446744073709551616 := by rw [IntKind.wrap_u64]
      obtain ⟨u, hu⟩ : ∃ u, u = z % 18446744073709551616 := ⟨_, rfl⟩
      have hu0 : 0 ≤ u := by omega
      have hu1 : u < 18446744073709551616 := by omega
      have HCB : Hid (∀ j, j < 8 → u / 2 ^ (56 - 8 * j) % 256 = ((cb z j).toNat : Int)) := Lib.hid (fun j hj => by rw [hu, show 56 - 8 * j = 8 * (7 - j) by omega]; exact cb_u64 z j hj)
      rw [← hu] at hw64
      have HS := Lib.hid hs
      have HB := Lib.hid hb
      have HO := Lib.hid ho
      have HR := Lib.hid hrow
      have HT := Lib.hid hstep
      clear hs hb ho hrow hstep hck hzd hu
      have hd10 : decide ((k : Int) < 60) = true := by simp; omega
      go_wp2_with fail
      clear hcell
      go_loopw [3, 6] (fun s i wr => ∃ j : Nat, j ≤ 8 ∧ i = .int .i64 j ∧ Own wr w.heap.size s (num n ++ cut c k j) ∧ PB wr g1 27 (n :: c) ∧ Only [] w wr) (fun _ i _ => 8 - (intOf i).toNat)
      case atStart => exact ⟨0, by omega, rfl, HS.out, HB.out, HO.out⟩
      case round =>
        clear HS HB HO
        obtain ⟨j, hj, rfl, hs, hb, ho⟩ := hrel
        have HS1 := Lib.hid hs
        have HB1 := Lib.hid hb
        have HO1 := Lib.hid ho
        clear hs hb ho
        by_cases hjt : j < 8
        · have HX := Lib.hid (HCB.out j hjt)
          have hst : num n ++ cut c k j ++ [cb z j] = num n ++ cut c k (j + 1) := by rw [List.append_assoc, ← HT.out j hjt]
          have HST := Lib.hid hst
          have hlen := cut_length c k j
          have hsz := HO1.out.size
          have HL : Hid ((num n ++ cut c k j).length ≤ 600) := Lib.hid (by rw [List.length_append]; omega)
          have HL2 : Hid ((num n ++ cut c k j).length + [cb z j].length = (num n ++ cut c k j).length + 1) := Lib.hid rfl
          clear hst hlen
          go_wp2_with (refine wpList_append_any rfl (.tmp 25) (.tmp 33) rfl w.heap.size _ (num n ++ cut c k j) (by rfl) (HS1.out.quiet ((Only.refl [] wr).alloc _)) _ [cb z j] (by rfl) (bytes_one wr _ _ HX.out) ((num n ++ cut c k j).length + 1) HL2.out (num n ++ cut c k (j + 1)) HST.out (by have := HL.out; omega) (by simp; omega) ?_; intro a5 c5 w5 h6 e5)
          have ho6 : Only [] w w5 := Ext.fresh (HO1.out.trans ((Only.refl [] wr).alloc _) (by simp)) (HS1.out.quiet ((Only.refl [] wr).alloc _)) (Nat.le_refl _) e5
          have hb6 : PB w5 g1 27 (n :: c) := by
            have hbA := HB1.out.kept ((Only.refl [] wr).alloc (.cells #[.int .u8 (u / 2 ^ (56 - 8 * j) % 256)] 5)) (by simp)
            refine hbA.kept e5.only ?_
            intro hmem
            have hq : u3.ownBlock = some g1 := by simpa using hmem
            obtain ⟨hh1, hh2⟩ := HS1.out.lt hq
            have hgt : HB1.out.lt = HB1.out.lt := rfl
            rcases HS1.out.2 with ⟨e, _⟩ | ⟨gg, cap, cur, e, _, hg, _⟩
            · rw [e] at hq
              simp [Value.ownBlock] at hq
            · rw [e] at hq
              simp [Value.ownBlock] at hq
              subst hq
              have hB := HB1.out
              unfold PB at hB
              rw [hg] at hB
              simp only [Option.some.injEq, Obj.cells.injEq] at hB
              exact absurd hB.2.1 (by decide)
          have H6 := Lib.hid h6
          have HO6 := Lib.hid ho6
          have HB6 := Lib.hid hb6
          clear e5 h6 ho6 hb6
          go_roundw
          case rel => exact ⟨j + 1, by omega, by go_num, by rw [← List.length_append]; exact H6.out, HB6.out, HO6.out⟩
          case measure => simp [intOf]; omega
        · obtain rfl : j = 8 := by omega
          have HS2 : Hid (Own wr w.heap.size u3 (num n ++ cut c (k + 1) 0)) := Lib.hid (by rw [← HR.out]; exact HS1.out)
          clear HS1
          go_wp2_with fail
          go_roundw
          case rel => exact ⟨k + 1, by omega, by go_num, HS2.out, HB1.out, HO1.out⟩
          case measure => simp [intOf]; omega
    · obtain rfl : k = 60 := by omega
      rw [HA.out] at hs
      have HS := Lib.hid hs
      have HO := Lib.hid ho
      have hpl := (pin_length HP.out).2
      clear hs ho hb
      go_wp2_with fail
      refine (RBox_any 512 _ (pin n c) wr (by omega) (by omega) HS.out.bytes (by omega)).mono ?_
      rintro e w5 ⟨a5, c5, rfl, h5, o5⟩
      have H5 := Lib.hid (h5.mono HO.out.size)
      have HO5 := Lib.hid (HO.out.trans o5 (by simp))
      clear h5 o5
      go_wp2
      go_ret
      exact ⟨a5, c5, rfl, H5.out, HO5.out⟩

end Go.Proofs.Ythacfanfhdjmbaa
