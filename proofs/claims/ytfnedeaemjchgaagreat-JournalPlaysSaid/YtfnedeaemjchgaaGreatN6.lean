/- wire: what boxes are made of. -/
import Derived.Test.YtfnedeaemjchgaaGreatN5
namespace Go.Proofs.YtfnedeaemjchgaaGreat
open Go.RowKit Go.Maps
set_option linter.unusedSimpArgs false
set_option linter.unusedVariables false

set_option maxRecDepth 100000 in
theorem fits_any (room : Int) (v : Value) (ls : List Sec) (w : World) (h : Parts w v ls) (hr0 : 0 ≤ room) (hr1 : room ≤ 65536) (hlen : ls.length ≤ 4611686018427387904) (hmax : ∀ l ∈ ls, l.length ≤ 9223372036854775807) :
    Calls Tryz.prog 83 #[.int .i64 room, v] w fun e w' => e = .returned (.bool (decide ((total ls : Int) ≤ room))) ∧ w = w' := by
  have HP := Lib.hid h
  obtain ⟨va, vc, rfl, -⟩ := id h
  have HM := Lib.hid hmax
  clear h hmax
  go_enter Tryz.func83, Tryz.ntmps83
  go_wp2_with fail
  go_loop [0, 6, 9] (fun r _ i => ∃ k : Nat, k ≤ ls.length ∧ i = .int .i64 k ∧ (total (ls.take k) : Int) ≤ room ∧ r = .int .i64 (room - (total (ls.take k) : Nat))) (fun _ _ i => ls.length - (intOf i).toNat)
  case atStart => exact ⟨0, by omega, rfl, by simpa [total] using hr0, by simp [total]⟩
  case round =>
    obtain ⟨k, hk, rfl, htot, rfl⟩ := hrel
    by_cases hlt : k < ls.length
    · have hkl : ls[k]? = some ls[k] := List.getElem?_eq_getElem hlt
      have hm := HM.out _ (List.mem_of_getElem? hkl)
      have hts := total_take_succ ls k _ hkl
      have hle := total_take_le ls (k + 1)
      obtain ⟨b, off, cap, a', cap', hv, hcell, hbytes⟩ := HP.out.part hkl
      cases hv
      clear hkl hbytes
      generalize hll : ls[k].length = m at *
      have HT := Lib.hid hts
      clear hts hll
      generalize htt : total (ls.take k) = t at *
      have HTT := Lib.hid htt
      clear htt
      by_cases hbig : (room - (t : Int)) < (m : Int)
      · have hfin : decide ((total ls : Int) ≤ room) = false := by have := HT.out; simp; omega
        have HF := Lib.hid hfin
        clear hfin
        go_wp2_with fail
        go_ret
        exact ⟨ret_bool HF.out.symm, rfl⟩
      · go_wp2_with fail
        go_round
        case rel => exact ⟨k + 1, by omega, by go_num, by rw [HT.out]; omega, by rw [HT.out]; congr 1; omega⟩
        case measure => simp [intOf]; omega
    · obtain rfl : k = ls.length := by omega
      rw [List.take_length] at htot
      go_wp2_with fail
      go_ret
      exact ⟨rfl, rfl⟩

theorem val_take_lt (l : Sec) (k : Nat) : val (l.take k) < 256 ^ k := by
  induction k with
  | zero => simp [val]
  | succ k ih =>
    cases h : l[k]? with
    | none =>
      have : l.take (k + 1) = l.take k := by rw [List.take_add_one, h]; simp
      rw [this, Nat.pow_succ]
      omega
    | some c =>
      rw [take_snoc l k c h, val_snoc, Nat.pow_succ]
      have := c.toNat_lt
      omega
set_option maxRecDepth 100000 in
theorem takeHigh_any (v : Value) (l : Sec) (w : World) (hv : Bytes w v l) (hl : l.length ≤ 4) :
    Calls Tryz.prog 98 #[v] w fun e w' => e = .returned (.int .u32 (val l : Nat)) ∧ w = w' := by
  have HV := Lib.hid hv
  obtain ⟨va, vc, rfl, -⟩ := id hv
  clear hv
  go_enter Tryz.func98, Tryz.ntmps98
  go_wp2_with fail
  go_loop [3, 5, 8] (fun n _ i => ∃ k : Nat, k ≤ l.length ∧ i = .int .i64 k ∧ n = .int .u32 (val (l.take k) : Nat)) (fun _ _ i => l.length - (intOf i).toNat)
  case atStart => exact ⟨0, by omega, rfl, rfl⟩
  case round =>
    obtain ⟨k, hk, rfl, rfl⟩ := hrel
    by_cases hlt : k < l.length
    · have hkl : l[k]? = some l[k] := List.getElem?_eq_getElem hlt
      have hst := val_snoc (l.take k) l[k]
      rw [← take_snoc l k _ hkl] at hst
      obtain ⟨a2, c2, hv2, hcs⟩ := HV.out
      cases hv2
      obtain ⟨b2, off2, rfl, hcell⟩ := hcs k _ hkl
      clear hcs hkl
      generalize l[k] = c at *
      have hc0 := c.toNat_lt
      have hx : val (l.take k) < 16777216 := by
        have h1 := val_take_lt l k
        have h2 : 256 ^ k ≤ 256 ^ 3 := Nat.pow_le_pow_right (by decide) (by omega)
        omega
      generalize val (l.take k) = x at *
      have hor := bits_join .u32 32 (by decide) wraps_u32 8 ((x : Int) * 256) (c.toNat : Int) (by omega) (by omega) (by omega) (by omega) (by omega) (by omega)
      have HO := Lib.hid hor
      have HS := Lib.hid hst
      clear hor hst
      go_wp2_with fail
      go_round
      case rel => exact ⟨k + 1, by omega, by go_num, by rw [HS.out, HO.out]; rfl⟩
      case measure => simp [intOf]; omega
    · obtain rfl : k = l.length := by omega
      rw [List.take_length]
      go_wp2_with fail
      go_ret
      exact ⟨rfl, rfl⟩

set_option maxRecDepth 100000 in
theorem blank_any (v : Value) (l : Sec) (w : World) (hv : Bytes w v l) (hl : l.length ≤ 4611686018427387904) :
    Calls Tryz.prog 99 #[v] w fun e w' => e = .returned (.bool (isBlank l)) ∧ w = w' := by
  have HV := Lib.hid hv
  obtain ⟨va, vc, rfl, -⟩ := id hv
  clear hv
  go_enter Tryz.func99, Tryz.ntmps99
  go_wp2_with fail
  go_loop [4, 7] (fun _ i => ∃ k : Nat, k ≤ l.length ∧ i = .int .i64 k ∧ isBlank (l.take k) = true) (fun _ i => l.length - (intOf i).toNat)
  case atStart => exact ⟨0, by omega, rfl, rfl⟩
  case round =>
    obtain ⟨k, hk, rfl, hb⟩ := hrel
    by_cases hlt : k < l.length
    · have hkl : l[k]? = some l[k] := List.getElem?_eq_getElem hlt
      have hst : isBlank (l.take (k + 1)) = (isBlank (l.take k) && l[k] == 0) := by unfold isBlank; rw [take_snoc l k _ hkl, List.all_append]; simp
      obtain ⟨a2, c2, hv2, hcs⟩ := HV.out
      cases hv2
      obtain ⟨b2, off2, rfl, hcell⟩ := hcs k _ hkl
      have hmem := List.mem_of_getElem? hkl
      clear hcs hkl
      generalize l[k] = c at *
      have hc0 := c.toNat_lt
      by_cases hc : c = 0
      · have q0 : ((c.toNat : Int) != 0) = false := by rw [hc]; rfl
        have hfin : isBlank (l.take (k + 1)) = true := by rw [hst, hb, hc]; rfl
        have HF := Lib.hid hfin
        clear hst hb hc hfin hmem
        go_wp2_with fail
        go_round
        case rel => exact ⟨k + 1, by omega, by go_num, HF.out⟩
        case measure => simp [intOf]; omega
      · have q0 : ((c.toNat : Int) != 0) = true := by
          rw [bne_iff_ne]
          exact fun e => hc (UInt8.toNat_inj.1 (by show _ = 0; omega))
        have hfin : isBlank l = false := by
          rw [Bool.eq_false_iff]
          intro h
          exact hc (by simpa using List.all_eq_true.1 h c hmem)
        have HF := Lib.hid hfin
        clear hst hb hc hfin hmem
        go_wp2_with fail
        go_ret
        exact ⟨ret_bool HF.out.symm, rfl⟩
    · obtain rfl : k = l.length := by omega
      rw [List.take_length] at hb
      have HF := Lib.hid hb
      clear hb
      go_wp2_with fail
      go_ret
      exact ⟨ret_bool HF.out.symm, rfl⟩

/-- The lowest i bytes of n, the highest first. -/
def beN : Nat → Nat → List UInt8
  | 0, _ => []
  | i + 1, n => UInt8.ofNat (n / 256 ^ i) :: beN i n
theorem beN_length (n : Nat) : ∀ i, (beN i n).length = i
  | 0 => rfl
  | i + 1 => by simp [beN, beN_length n i]
theorem beN_four (n : Nat) : beN 4 n = be4 n := by simp [beN, be4]
theorem beN_two (n : Nat) : beN 2 n = be2 n := by simp [beN, be2]
theorem spl_get (cur : Sec) (off : Nat) (src : Sec) (h : off + src.length ≤ cur.length) (j : Nat) : (spl cur off src)[j]? = if off ≤ j ∧ j < off + src.length then src[j - off]? else cur[j]? := by
  unfold spl
  by_cases h1 : j < off
  · rw [List.append_assoc, List.getElem?_append_left (by simp; omega), if_neg (by omega), List.getElem?_take_of_lt h1]
  · by_cases h2 : j < off + src.length
    · rw [List.getElem?_append_left (by simp; omega), List.getElem?_append_right (by simp; omega), if_pos ⟨by omega, h2⟩]
      congr 1
      simp
      omega
    · rw [List.getElem?_append_right (by simp; omega), if_neg (by omega), List.getElem?_drop]
      congr 1
      simp
      omega
theorem spl_cons (cur : Sec) (p : Nat) (c : UInt8) (src : Sec) (h : p + 1 + src.length ≤ cur.length) : (enc (spl cur (p + 1) src)).setIfInBounds p (.int .u8 c.toNat) = enc (spl cur p (c :: src)) := by
  apply Array.ext_getElem?
  intro j
  rw [Array.getElem?_setIfInBounds, enc_get, enc_get, enc_size, spl_length _ _ _ h, spl_get _ _ _ h, spl_get _ _ _ (by simp; omega)]
  by_cases e : p = j
  · subst e
    rw [if_pos rfl, if_pos (by omega), if_pos (by simp)]
    simp
  · rw [if_neg e]
    by_cases h1 : p + 1 ≤ j ∧ j < p + 1 + src.length
    · rw [if_pos h1, if_pos (by simp; omega)]
      rw [show j - p = (j - (p + 1)) + 1 by omega]
      simp
    · rw [if_neg h1, if_neg (by simp; omega)]

set_option maxRecDepth 100000 in
theorem putHigh_any (g off m cap : Nat) (cur : Sec) (n : Nat) (w : World) (hg : BBlk w g cur) (hm : m ≤ 4) (hfit : off + m ≤ cur.length) (hn : n < 4294967296) :
    Calls Tryz.prog 84 #[.slice (some ⟨g, off, none⟩) m cap, .int .u32 n] w fun e w' => e = .returned (.tuple #[]) ∧ BBlk w' g (spl cur off (beN m n)) ∧ Only [g] w w' := by
  have HG := Lib.hid hg
  clear hg
  go_enter Tryz.func84, Tryz.ntmps84
  go_wp2_with fail
  go_loopw [4, 7] (fun _ i wr => ∃ k : Nat, k ≤ m ∧ i = .int .i64 k ∧ BBlk wr g (spl cur (off + (m - k)) (beN k n)) ∧ Only [g] w wr) (fun _ i _ => m - (intOf i).toNat)
  case atStart => exact ⟨0, by omega, rfl, by simpa [beN, spl] using HG.out, Only.refl _ _⟩
  case round =>
    clear HG
    obtain ⟨k, hk, rfl, hb, ho⟩ := hrel
    by_cases hlt : k < m
    · have hbl := beN_length n k
      have hlen : (spl cur (off + (m - k)) (beN k n)).length = cur.length := spl_length _ _ _ (by omega)
      have hset := spl_cons cur (off + (m - (k + 1))) (UInt8.ofNat (n / 256 ^ k)) (beN k n) (by omega)
      rw [show off + (m - (k + 1)) + 1 = off + (m - k) by omega] at hset
      have hcell : ∃ x : Int, wr.cell? ⟨g, off + (m - 1 - k), none⟩ = some (.int .u8 x) := by
        rw [cell_at _ hb, enc_get, List.getElem?_eq_getElem (by omega)]
        exact ⟨_, rfl⟩
      have hfree : wr.frozen? ⟨g, off + (m - 1 - k), none⟩ = false := free_at _ hb
      have hval : ((n : Int) / 2 ^ (8 * k)) % 256 = (((UInt8.ofNat (n / 256 ^ k)).toNat : Nat) : Int) := by
        rw [UInt8.toNat_ofNat', show (256 : Nat) = 2 ^ 8 from rfl, ← Nat.pow_mul]
        simp
      obtain ⟨x, hx⟩ := hcell
      have e1 : ((m : Int) - 1 - (k : Int)) = ((m - 1 - k : Nat) : Int) := by omega
      have HB := Lib.hid hb
      have HO := Lib.hid ho
      have HS := Lib.hid hset
      have HV := Lib.hid hval
      have HE := Lib.hid e1
      clear hb ho hset hval hbl hlen e1
      go_wp2_with fail
      have hcell := heap_cell (i := off + (m - 1 - k)) (.int .u8 ((UInt8.ofNat (n / 256 ^ k)).toNat : Nat)) HB.out
      rw [show m - 1 - k = m - (k + 1) by omega, HS.out] at hcell
      rw [HV.out, show m - 1 - k = m - (k + 1) by omega]
      exact ⟨⟨k + 1, by omega, by go_num, hcell, HO.out.setCell (p := ⟨g, _, none⟩) (by simp) _⟩, by simp [intOf]; omega⟩
    · obtain rfl : k = m := by omega
      go_wp2_with fail
      go_returns
      exact ⟨rfl, by simpa using hb, ho⟩
end Go.Proofs.YtfnedeaemjchgaaGreat
