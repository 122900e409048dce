/- wire: numbers and rows are taken. -/
import Derived.Test.YtfnedeaemjchgaaGreatN1
namespace Go.Proofs.YtfnedeaemjchgaaGreat
open Go.RowKit Go.Maps
set_option linter.unusedSimpArgs false
set_option linter.unusedVariables false

def numV (l : Sec) : Int × Int := match takeN l with
  | some (n, k) => (n, (k : Int))
  | none => (0, 0)
theorem numV_scan {l : Sec} {u k : Nat} (h : scan 0 l = some (u, k)) : numV l = (backN u, (k : Int)) := by unfold numV takeN; rw [h]; rfl
theorem numV_none {l : Sec} (h : scan 0 l = none) : numV l = (0, 0) := by unfold numV takeN; rw [h]; rfl
theorem or_digit (k acc d : Nat) (ha : acc < 128 ^ k) (hk : k ≤ 9) (hd : d * 128 ^ k < 18446744073709551616) (hd2 : d < 256) :
    bits .or .u64 (acc : Int) (IntKind.u64.wrap ((d : Int) * 2 ^ (7 * k))) = ((acc + 128 ^ k * d : Nat) : Int) := by
  have e2 : (128 : Nat) ^ k = 2 ^ (7 * k) := by rw [Nat.pow_mul]
  rw [e2] at ha hd ⊢
  have e3 : (d : Int) * 2 ^ (7 * k) = ((d * 2 ^ (7 * k) : Nat) : Int) := by simp
  rw [e3, wraps_u64 _ (by omega) (by exact_mod_cast hd)]
  rw [or_above .u64 64 (by decide) wraps_u64 (7 * k) acc d ha hd (by omega), Nat.mul_comm]

/-- What is known k bytes on. -/
def Reading (l : Sec) (k : Nat) (z : Int) : Prop := (k ≤ 9 → ∃ acc : Nat, z = (acc : Int) ∧ acc < 128 ^ k ∧ Acc l k acc) ∧ (k = 10 → scan 0 l = none)
theorem Reading.start (l : Sec) : Reading l 0 0 := ⟨fun _ => ⟨0, rfl, by decide, Acc.zero l⟩, fun h => by omega⟩
theorem Reading.next {l : Sec} {k : Nat} {z : Int} (h : Reading l k z) (hk : k < 10) {c : UInt8} (hc : l[k]? = some c) (h1 : 128 ≤ c.toNat) :
    Reading l (k + 1) (bits .or .u64 z (IntKind.u64.wrap ((c.toNat : Int) % 128 * 2 ^ (7 * k)))) := by
  obtain ⟨acc, rfl, ha, hacc⟩ := h.1 (by omega)
  have hlt := c.toNat_lt
  refine ⟨fun hk9 => ?_, fun hk10 => hacc.stop hc h1 (by omega)⟩
  have e : (c.toNat : Int) % 128 = ((c.toNat - 128 : Nat) : Int) := by omega
  have hp : 128 ^ k ≤ 128 ^ 8 := Nat.pow_le_pow_right (by decide) (by omega)
  have hm : (c.toNat - 128) * 128 ^ k ≤ 127 * 128 ^ 8 := Nat.mul_le_mul (by omega) hp
  rw [e, or_digit k acc _ ha (by omega) (Nat.lt_of_le_of_lt hm (by decide)) (by omega)]
  refine ⟨_, rfl, ?_, hacc.step hc h1 (by omega)⟩
  rw [Nat.pow_succ]
  have : 128 ^ k * (c.toNat - 128) ≤ 128 ^ k * 127 := Nat.mul_le_mul_left _ (by omega)
  omega
theorem Reading.last {l : Sec} {k : Nat} {z : Int} (h : Reading l k z) (hk : k < 10) {c : UInt8} (hc : l[k]? = some c) (h1 : ¬ 128 ≤ c.toNat) (he : endsB k c = true) :
    ∃ u : Nat, bits .or .u64 z (IntKind.u64.wrap ((c.toNat : Int) % 128 * 2 ^ (7 * k))) = (u : Int) ∧ u < 18446744073709551616 ∧ numV l = (backN u, ((k + 1 : Nat) : Int)) := by
  obtain ⟨acc, rfl, ha, hacc⟩ := h.1 (by omega)
  have e : (c.toNat : Int) % 128 = ((c.toNat : Nat) : Int) := by omega
  have hs := hacc.ends hc h1 he
  have hb : c.toNat * 128 ^ k < 18446744073709551616 := by
    by_cases h9 : k = 9
    · subst h9
      have : c = 1 := by simpa [endsB] using he
      subst this
      decide
    · have hp : 128 ^ k ≤ 128 ^ 8 := Nat.pow_le_pow_right (by decide) (by omega)
      exact Nat.lt_of_le_of_lt (Nat.mul_le_mul (show c.toNat ≤ 127 by omega) hp) (by decide)
  rw [e, or_digit k acc _ ha (by omega) hb (by omega)]
  exact ⟨_, rfl, (scan_inv l 0 _ _ (by omega) hs).2.2.1, numV_scan hs⟩
theorem Reading.bad {l : Sec} {k : Nat} {z : Int} (h : Reading l k z) (hk : k < 10) {c : UInt8} (hc : l[k]? = some c) (h1 : ¬ 128 ≤ c.toNat) (he : endsB k c = false) : numV l = (0, 0) := by
  obtain ⟨acc, rfl, ha, hacc⟩ := h.1 (by omega)
  exact numV_none (hacc.bad hc h1 he)
theorem Reading.over {l : Sec} {z : Int} (h : Reading l l.length z) (hk : l.length ≤ 10) : numV l = (0, 0) := by
  by_cases h10 : l.length = 10
  · exact numV_none (h.2 h10)
  obtain ⟨acc, rfl, ha, hacc⟩ := h.1 (by omega)
  exact numV_none hacc.over
theorem Reading.full {l : Sec} {z : Int} (h : Reading l 10 z) : numV l = (0, 0) := numV_none (h.2 rfl)

theorem ret_num {a b : Int} {l : Sec} (h : numV l = (a, b)) : Ending.returned (.tuple #[.int .i64 a, .int .i64 b]) = .returned (.tuple #[.int .i64 (numV l).1, .int .i64 (numV l).2]) := by rw [h]

set_option maxRecDepth 100000 in
theorem number_long (v : Value) (l : Sec) (w : World) (hv : Bytes w v l) (hl : l.length ≤ 70368744177664) (h10 : (10 : Int) < l.length) :
    Calls Tryz.prog 74 #[v] w fun e w' => e = .returned (.tuple #[.int .i64 (numV l).1, .int .i64 (numV l).2]) ∧ w = w' := by
  have HV := Lib.hid hv
  obtain ⟨va, vc, rfl, -⟩ := id hv
  clear hv
  go_enter Tryz.func74, Tryz.ntmps74
  go_wp2_with fail
  go_loop [4, 5, 9] (fun u _ c => ∃ (k : Nat) (z : Int), k ≤ 10 ∧ c = .int .i64 k ∧ u = .int .u64 z ∧ Reading l k z) (fun _ _ c => 10 - (intOf c).toNat)
  case atStart => exact ⟨0, 0, by omega, rfl, rfl, Reading.start l⟩
  case round =>
    obtain ⟨k, z, hk, rfl, rfl, hr⟩ := hrel
    have HR := Lib.hid hr
    clear hr
    by_cases hlt : k < 10
    · have hkl : l[k]? = some (l[k]'(by omega)) := List.getElem?_eq_getElem (by omega)
      generalize l[k]'(by omega) = c at *
      obtain ⟨va', vc', hv', hcs⟩ := HV.out
      cases hv'
      obtain ⟨b, off, rfl, hcell⟩ := hcs k c hkl
      have HK := Lib.hid hkl
      clear hcs hkl
      have hc0 := c.toNat_lt
      by_cases hc : 128 ≤ c.toNat
      · have HN := Lib.hid (HR.out.next (by omega) HK.out hc)
        go_wp2_with fail
        go_round
        case rel => exact ⟨k + 1, _, by omega, by go_num, rfl, HN.out⟩
        case measure => simp [intOf]; omega
      · go_wp2_with fail
        refine (ends_any k c w (by omega)).mono ?_
        rintro e w1 ⟨rfl, rfl⟩
        by_cases he : endsB k c = true
        · obtain ⟨u, h1, h2, h3⟩ := HR.out.last (by omega) HK.out hc he
          have H1 := Lib.hid h1
          have H3 := Lib.hid h3
          have HE := Lib.hid he
          clear h1 h3 he
          rw [HE.out]
          go_wp2_with fail
          rw [H1.out]
          refine (turnBack_any u w h2).mono ?_
          rintro e w1 ⟨rfl, rfl⟩
          go_wp2_with fail
          go_ret2
          exact ⟨ret_num H3.out, rfl⟩
        · have h3 := HR.out.bad (by omega) HK.out hc (by simpa using he)
          have he' : endsB k c = false := by simpa using he
          have H3 := Lib.hid h3
          have HE := Lib.hid he'
          clear h3 he he'
          rw [HE.out]
          go_wp2_with fail
          go_ret2
          exact ⟨ret_num H3.out, rfl⟩
    · obtain rfl : k = 10 := by omega
      go_wp2_with fail
      go_ret2
      exact ⟨ret_num (HR.out.full), rfl⟩
set_option maxRecDepth 100000 in
theorem number_short (v : Value) (l : Sec) (w : World) (hv : Bytes w v l) (hl : l.length ≤ 70368744177664) (h10 : (l.length : Int) ≤ 10) :
    Calls Tryz.prog 74 #[v] w fun e w' => e = .returned (.tuple #[.int .i64 (numV l).1, .int .i64 (numV l).2]) ∧ w = w' := by
  have HV := Lib.hid hv
  obtain ⟨va, vc, rfl, -⟩ := id hv
  clear hv
  go_enter Tryz.func74, Tryz.ntmps74
  go_wp2_with fail
  go_loop [4, 5, 9] (fun u _ c => ∃ (k : Nat) (z : Int), k ≤ l.length ∧ c = .int .i64 k ∧ u = .int .u64 z ∧ Reading l k z) (fun _ _ c => l.length - (intOf c).toNat)
  case atStart => exact ⟨0, 0, by omega, rfl, rfl, Reading.start l⟩
  case round =>
    obtain ⟨k, z, hk, rfl, rfl, hr⟩ := hrel
    have HR := Lib.hid hr
    clear hr
    by_cases hlt : k < l.length
    · have hkl : l[k]? = some (l[k]'(by omega)) := List.getElem?_eq_getElem (by omega)
      generalize l[k]'(by omega) = c at *
      obtain ⟨va', vc', hv', hcs⟩ := HV.out
      cases hv'
      obtain ⟨b, off, rfl, hcell⟩ := hcs k c hkl
      have HK := Lib.hid hkl
      clear hcs hkl
      have hc0 := c.toNat_lt
      by_cases hc : 128 ≤ c.toNat
      · have HN := Lib.hid (HR.out.next (by omega) HK.out hc)
        go_wp2_with fail
        go_round
        case rel => exact ⟨k + 1, _, by omega, by go_num, rfl, HN.out⟩
        case measure => simp [intOf]; omega
      · go_wp2_with fail
        refine (ends_any k c w (by omega)).mono ?_
        rintro e w1 ⟨rfl, rfl⟩
        by_cases he : endsB k c = true
        · obtain ⟨u, h1, h2, h3⟩ := HR.out.last (by omega) HK.out hc he
          have H1 := Lib.hid h1
          have H3 := Lib.hid h3
          have HE := Lib.hid he
          clear h1 h3 he
          rw [HE.out]
          go_wp2_with fail
          rw [H1.out]
          refine (turnBack_any u w h2).mono ?_
          rintro e w1 ⟨rfl, rfl⟩
          go_wp2_with fail
          go_ret2
          exact ⟨ret_num H3.out, rfl⟩
        · have h3 := HR.out.bad (by omega) HK.out hc (by simpa using he)
          have he' : endsB k c = false := by simpa using he
          have H3 := Lib.hid h3
          have HE := Lib.hid he'
          clear h3 he he'
          rw [HE.out]
          go_wp2_with fail
          go_ret2
          exact ⟨ret_num H3.out, rfl⟩
    · obtain rfl : k = l.length := by omega
      go_wp2_with fail
      go_ret2
      exact ⟨ret_num (HR.out.over (by omega)), rfl⟩
theorem number_any (v : Value) (l : Sec) (w : World) (hv : Bytes w v l) (hl : l.length ≤ 70368744177664) :
    Calls Tryz.prog 74 #[v] w fun e w' => e = .returned (.tuple #[.int .i64 (numV l).1, .int .i64 (numV l).2]) ∧ w = w' := by
  by_cases h : (10 : Int) < l.length
  · exact number_long v l w hv hl h
  · exact number_short v l w hv hl (by omega)
end Go.Proofs.YtfnedeaemjchgaaGreat
