/- Numbers as bytes, read from their end: plain facts. Nothing of the program is named here. -/
import Derived.Test.YthacfanfhdjmbaaM1
namespace Go.Proofs.Ythacfanfhdjmbaa

/-- The digits together, the first one the lowest. -/
def rval : List UInt8 → Nat
  | [] => 0
  | c :: r => c.toNat % 128 + 128 * rval r
theorem rval_dig (u : Nat) : rval (dig u) = u := by
  induction u using Nat.strongRecOn with
  | ind u ih =>
    by_cases h : u < 128
    · rw [dig_low h, rval, rval, u8_ofNat (by omega)]
      omega
    · rw [dig_high (by omega), rval, ih (u / 128) (by omega), u8_ofNat (by omega)]
      omega
/-- The bytes of a number but its last one are 128 or more, and that one is less. -/
theorem dig_bytes (u : Nat) : ∀ i c, (dig u)[i]? = some c → (c.toNat < 128 ↔ i + 1 = (dig u).length) := by
  induction u using Nat.strongRecOn with
  | ind u ih =>
    intro i c hi
    by_cases h : u < 128
    · rw [dig_low h] at hi ⊢
      cases i with
      | zero =>
        simp at hi
        subst hi
        rw [u8_ofNat (by omega)]
        simp [h]
      | succ i => simp at hi
    · rw [dig_high (by omega)] at hi ⊢
      cases i with
      | zero =>
        simp only [List.getElem?_cons_zero, Option.some.injEq] at hi
        subst hi
        rw [u8_ofNat (by omega)]
        have := dig_pos (u / 128)
        simp only [List.length_cons]
        omega
      | succ i =>
        rw [List.getElem?_cons_succ] at hi
        have := ih (u / 128) (by omega) i c hi
        rw [this]
        simp
theorem rval_snoc (l : List UInt8) (c : UInt8) : rval (l ++ [c]) = rval l + 128 ^ l.length * (c.toNat % 128) := by
  induction l with
  | nil => simp [rval]
  | cons d r ih =>
    rw [List.cons_append, rval, ih, rval, List.length_cons, Nat.pow_succ, Nat.mul_add, ← Nat.mul_assoc, Nat.mul_comm 128 (128 ^ r.length)]
    omega
/-- What the bytes begin with, by their first byte that is less than 128: where that is at n. -/
theorem takeN_at {l : List UInt8} {n : Nat} {c : UInt8} (hn : l[n]? = some c) (hc : c.toNat < 128) (hb : ∀ i d, i < n → l[i]? = some d → 128 ≤ d.toNat) {v : Int} {k : Nat} (h : takeN l = some (v, k)) : k = n + 1 ∧ rval (l.take (n + 1)) = turnN v := by
  obtain ⟨h1, h2, h3, _, _⟩ := takeN_inv h
  unfold num at h1
  have hlen : (dig (turnN v)).length = k := by rw [h1]; simp; omega
  have hk : k = n + 1 := by
    rcases Nat.lt_trichotomy k (n + 1) with h4 | h4 | h4
    · obtain ⟨d, hd⟩ : ∃ d, l[k - 1]? = some d := ⟨l[k - 1]'(by omega), List.getElem?_eq_getElem (by omega)⟩
      have h5 : (dig (turnN v))[k - 1]? = some d := by rw [h1, List.getElem?_take_of_lt (by omega), hd]
      have h6 := (dig_bytes _ _ _ h5).2 (by omega)
      have h7 := hb (k - 1) d (by omega) hd
      omega
    · exact h4
    · have h5 : (dig (turnN v))[n]? = some c := by rw [h1, List.getElem?_take_of_lt (by omega), hn]
      have h6 := (dig_bytes _ _ _ h5).1 hc
      omega
  subst hk
  exact ⟨rfl, by rw [← h1, rval_dig]⟩
/-- No number where the first ten bytes are 128 or more, or all that there are. -/
theorem takeN_over {l : List UInt8} {n : Nat} (hb : ∀ i d, i < n → l[i]? = some d → 128 ≤ d.toNat) (hn : n = l.length ∨ n = 10) : takeN l = none := by
  cases h : takeN l with
  | none => rfl
  | some p =>
    obtain ⟨v, k⟩ := p
    obtain ⟨h1, h2, h3, h4, h5⟩ := takeN_inv h
    have hlen : (num v).length = k := by rw [h1]; simp; omega
    have hten := num_ten h4 h5
    obtain ⟨d, hd⟩ : ∃ d, l[k - 1]? = some d := ⟨l[k - 1]'(by omega), List.getElem?_eq_getElem (by omega)⟩
    have h6 : (dig (turnN v))[k - 1]? = some d := by
      have : dig (turnN v) = l.take k := h1
      rw [this, List.getElem?_take_of_lt (by omega), hd]
    have h7 := (dig_bytes _ _ _ h6).2 (by unfold num at hlen; omega)
    have h8 := hb (k - 1) d (by omega) hd
    omega
end Go.Proofs.Ythacfanfhdjmbaa
