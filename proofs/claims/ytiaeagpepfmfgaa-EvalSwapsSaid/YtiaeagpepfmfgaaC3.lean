/- The scanner's names, numbers, signs and gaps. -/
import Derived.Test.YtiaeagpepfmfgaaC2
import Derived.Test.YtiaeagpepfmfgaaLib
import Derived.Lib.IndexBytes
import Derived.Lib.ItoaWalk
namespace Go.Proofs.Ytiaeagpepfmfgaa
open Go.RowKit Go.Maps
set_option linter.unusedSimpArgs false
set_option linter.unusedVariables false

/-! ### what the library's two errors hold -/
/-! ### strings -/
theorem str_empty {s : ByteArray} (h : s.size = 0) : s = ⟨#[]⟩ := ByteArray.ext (Array.eq_empty_of_size_eq_zero h)
theorem str_full {s : ByteArray} (h : s.size ≠ 0) : s.toList.isEmpty = false := by
  rw [← decide_eq_emptyBytes]
  exact decide_eq_false (fun e => h (by rw [e]; rfl))
theorem str_head {s : ByteArray} (h : 0 < s.size) : s.data.toList.head? = some s[0] := by
  rw [List.head?_eq_getElem?]
  exact byteAt s 0 h
theorem str_eq_iff {s : ByteArray} {l : Sec} : s = ⟨l.toArray⟩ ↔ s.data.toList = l := by
  constructor
  · intro h
    rw [h]
  · intro h
    apply ByteArray.ext
    rw [← h]
/-- A string against a constant, in the walk's own spelling. -/
theorem str_neq {s : ByteArray} {l : Sec} (h : s.data.toList ≠ l) : (s.toList == l) = false := by
  rw [ByteArray.toList_eq]
  simpa using h

/-! ### what digits spell -/
theorem valN_ge : ∀ (l : Sec) (acc : Nat), acc ≤ valN acc l
  | [], _ => Nat.le_refl _
  | c :: r, acc => Nat.le_trans (by omega) (valN_ge r (acc * 10 + (c.toNat - 48)))
theorem valN_cons (acc : Nat) (c : UInt8) (r : Sec) : valN acc (c :: r) = valN (acc * 10 + (c.toNat - 48)) r := by conv => lhs; unfold valN
theorem parse_cons {acc M : Nat} {c : UInt8} {r : Sec} (hM : M = 18446744073709551616) (hN : 1844674407370955162 ≤ acc → M ≤ acc * 10) (hc : 48 ≤ c.toNat ∧ c.toNat ≤ 57) : Lib.parseUint10 acc (c :: r) = if M ≤ acc * 10 + (c.toNat - 48) then .range else Lib.parseUint10 (acc * 10 + (c.toNat - 48)) r := by
  have e : Lib.parseUint10 acc (c :: r) = if 1844674407370955162 ≤ acc then .range else if 18446744073709551616 ≤ acc * 10 + (c.toNat - 48) then .range else Lib.parseUint10 (acc * 10 + (c.toNat - 48)) r := by
    simp only [Lib.parseUint10, if_pos hc]
  rw [e, ← hM]
  clear e hM hc
  generalize Lib.parseUint10 (acc * 10 + (c.toNat - 48)) r = X
  generalize 1844674407370955162 = N at hN ⊢
  by_cases h1 : N ≤ acc
  · have := hN h1
    rw [if_pos h1, if_pos (by omega)]
  · rw [if_neg h1]
theorem parse_dig (M : Nat) (hM : M = 18446744073709551616) : ∀ (l : Sec) (acc : Nat), (∀ c ∈ l, isDig c = true) → acc < M → (valN acc l < M → Lib.parseUint10 acc l = .ok (valN acc l)) ∧ (M ≤ valN acc l → Lib.parseUint10 acc l = .range)
  | [], acc, _, ha => ⟨fun _ => rfl, fun h => absurd ha (Nat.not_lt.2 h)⟩
  | c :: r, acc, h, ha => by
    have hc := h c (by simp)
    simp [isDig] at hc
    have hge := valN_ge r (acc * 10 + (c.toNat - 48))
    rw [parse_cons hM (fun h => by omega) hc, valN_cons]
    by_cases h2 : M ≤ acc * 10 + (c.toNat - 48)
    · rw [if_pos h2]
      exact ⟨fun h => absurd (Nat.le_trans h2 hge) (Nat.not_le.2 h), fun _ => rfl⟩
    · rw [if_neg h2]
      exact parse_dig M hM r _ (fun x hx => h x (by simp [hx])) (Nat.not_le.1 h2)
theorem parse_number {l : Sec} (h : ∀ c ∈ l, isDig c = true) (h0 : l ≠ []) : (valN 0 l < 9223372036854775808 → Lib.parseIntB 64 l = .ok (valN 0 l : Int)) ∧ (9223372036854775808 ≤ valN 0 l → Lib.parseIntB 64 l = .range) := by
  rw [Lib.parseIntB_64]
  obtain ⟨c, r, rfl⟩ : ∃ c r, l = c :: r := by
    cases l with
    | nil => exact absurd rfl h0
    | cons c r => exact ⟨c, r, rfl⟩
  have hc := h c (by simp)
  simp [isDig] at hc
  have h1 : ¬ (c.toNat = 43 ∨ c.toNat = 45) := by omega
  have h2 : ¬ c.toNat = 45 := by omega
  obtain ⟨p1, p2⟩ := parse_dig _ rfl (c :: r) 0 h (by omega)
  generalize valN 0 (c :: r) = v at p1 p2 ⊢
  simp only [Lib.atoiAll, if_neg h1, Lib.parseMag, if_neg h0, if_neg h2]
  constructor
  · intro hv
    rw [p1 (by omega)]
    simp [h2]
    omega
  · intro hv
    by_cases h3 : v < 18446744073709551616
    · rw [p1 h3]
      simp [h2]
      omega
    · rw [p2 (by omega)]

theorem number_digits (l : Sec) : ∀ c ∈ l.take (runN isDig l), isDig c = true := by
  intro c hc
  obtain ⟨i, hi⟩ := List.getElem?_of_mem hc
  have hlt := (List.getElem?_eq_some_iff.1 hi).1
  rw [List.length_take] at hlt
  rw [List.getElem?_take_of_lt (by omega)] at hi
  exact runN_all isDig l i c (by omega) hi

end Go.Proofs.Ytiaeagpepfmfgaa
