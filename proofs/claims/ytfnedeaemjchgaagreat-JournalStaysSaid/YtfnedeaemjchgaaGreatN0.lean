/- Bits of numbers: plain facts. -/
import Derived.Test.YtfnedeaemjchgaaGreatW
import Derived.Laws.BitsLemmas
import Derived.Laws.Bits64
namespace Go.Proofs.YtfnedeaemjchgaaGreat
set_option linter.unusedVariables false

theorem bits_xor_nat (k : IntKind) (j : Nat) (hj : k.bits = j) (hk : ∀ n : Int, 0 ≤ n → n < 2 ^ j → k.wrap n = n) (a b : Nat) (ha : a < 2 ^ j) (hb : b < 2 ^ j) : bits .xor k a b = ((a ^^^ b : Nat) : Int) := by
  subst hj
  have ha' : a % 2 ^ k.bits = a := Nat.mod_eq_of_lt ha
  have hb' : b % 2 ^ k.bits = b := Nat.mod_eq_of_lt hb
  simp only [bits, BitVec.ofInt_natCast, BitVec.toNat_xor, BitVec.toNat_ofNat, ha', hb']
  refine hk _ (Int.natCast_nonneg _) ?_
  have := Nat.xor_lt_two_pow ha hb
  exact_mod_cast this
theorem xor_ones (j x : Nat) (h : x < 2 ^ j) : (2 ^ j - 1) ^^^ x = 2 ^ j - 1 - x := by
  have h1 : (BitVec.allOnes j ^^^ BitVec.ofNat j x).toNat = (~~~ (BitVec.ofNat j x)).toNat := by rw [BitVec.not_def]
  rw [BitVec.toNat_xor, BitVec.toNat_not, BitVec.toNat_allOnes, BitVec.toNat_ofNat, Nat.mod_eq_of_lt h] at h1
  exact h1
theorem wraps_u64 (n : Int) (h₀ : 0 ≤ n) (h₁ : n < 2 ^ 64) : IntKind.u64.wrap n = n := by rw [IntKind.wrap_u64]; omega
theorem wraps_u32 (n : Int) (h₀ : 0 ≤ n) (h₁ : n < 2 ^ 32) : IntKind.u32.wrap n = n := by rw [IntKind.wrap_u32]; omega
theorem not_u64 (x : Int) (h0 : 0 ≤ x) (h1 : x < 18446744073709551616) : bits .xor .u64 IntKind.u64.max x = 18446744073709551615 - x := by
  obtain ⟨a, rfl⟩ := Int.eq_ofNat_of_zero_le h0
  have ha : a < 2 ^ 64 := by omega
  have e : IntKind.u64.max = ((2 ^ 64 - 1 : Nat) : Int) := by decide
  rw [e, bits_xor_nat .u64 64 rfl wraps_u64 _ a (by decide) ha, xor_ones 64 a ha]
  omega
theorem not_u32 (x : Int) (h0 : 0 ≤ x) (h1 : x < 4294967296) : bits .xor .u32 IntKind.u32.max x = 4294967295 - x := by
  obtain ⟨a, rfl⟩ := Int.eq_ofNat_of_zero_le h0
  have ha : a < 2 ^ 32 := by omega
  have e : IntKind.u32.max = ((2 ^ 32 - 1 : Nat) : Int) := by decide
  rw [e, bits_xor_nat .u32 32 rfl wraps_u32 _ a (by decide) ha, xor_ones 32 a ha]
  omega
theorem not_u32' (x : Int) (h0 : 0 ≤ x) (h1 : x < 4294967296) : bits .xor .u32 x 4294967295 = 4294967295 - x := by
  obtain ⟨a, rfl⟩ := Int.eq_ofNat_of_zero_le h0
  have ha : a < 2 ^ 32 := by omega
  have e : (4294967295 : Int) = ((2 ^ 32 - 1 : Nat) : Int) := by decide
  rw [e, bits_xor_nat .u32 32 rfl wraps_u32 a _ ha (by decide), Nat.xor_comm, xor_ones 32 a ha]
  omega
theorem not_i64 (x : Int) (h0 : 0 ≤ x) (h1 : x ≤ 9223372036854775807) : bits .xor .i64 (-1) x = -x - 1 := by
  obtain ⟨a, rfl⟩ := Int.eq_ofNat_of_zero_le h0
  have ha : a < 2 ^ 64 := by omega
  have e : BitVec.ofInt IntKind.i64.bits (-1) = BitVec.ofNat IntKind.i64.bits (2 ^ 64 - 1) := (by decide : BitVec.ofInt 64 (-1) = BitVec.ofNat 64 (2 ^ 64 - 1))
  simp only [bits, e, BitVec.ofInt_natCast]
  have e2 : (BitVec.ofNat IntKind.i64.bits (2 ^ 64 - 1) ^^^ BitVec.ofNat IntKind.i64.bits a).toNat = 2 ^ 64 - 1 - a := by
    have e3 : (BitVec.ofNat 64 (2 ^ 64 - 1) ^^^ BitVec.ofNat 64 a).toNat = (2 ^ 64 - 1) ^^^ a := by
      rw [BitVec.toNat_xor, BitVec.toNat_ofNat, BitVec.toNat_ofNat, Nat.mod_eq_of_lt ha, Nat.mod_eq_of_lt (by decide)]
    exact e3.trans (xor_ones 64 a ha)
  rw [e2, IntKind.wrap_i64]
  omega
theorem and1_u64 (x : Int) (h0 : 0 ≤ x) (h1 : x < 18446744073709551616) : bits .and .u64 x 1 = x % 2 := by
  have := bits_mask .u64 64 (by decide) wraps_u64 1 (by decide) x h0 (by omega)
  simpa using this
theorem and1_u32 (x : Int) (h0 : 0 ≤ x) (h1 : x < 4294967296) : bits .and .u32 x 1 = x % 2 := by
  have := bits_mask .u32 32 (by decide) wraps_u32 1 (by decide) x h0 (by omega)
  simpa using this
theorem or_comm (k : IntKind) (a b : Int) : bits .or k a b = bits .or k b a := by simp only [bits, BitVec.or_comm]
theorem or128_u8 (x : Int) (h0 : 0 ≤ x) (h1 : x < 256) : bits .or .u8 x 128 = x % 128 + 128 := by
  by_cases h : x < 128
  · rw [or_comm, bits_join .u8 8 (by decide) wraps_u8 7 128 x (by decide) (by decide) (by decide) h0 (by omega) (by omega)]
    omega
  · obtain ⟨a, rfl⟩ := Int.eq_ofNat_of_zero_le h0
    have e : ∀ a : Fin 256, 128 ≤ a.val → a.val ||| 128 = a.val := by decide +kernel
    have e1 : (128 : Int) = ((128 : Nat) : Int) := rfl
    rw [e1, (bits_nat .u8 8 (by decide) wraps_u8 a 128 (by omega) (by decide)).2, e ⟨a, by omega⟩ (by simp; omega)]
    simp
    omega
/-- Bits above those that there are. -/
theorem or_above (k : IntKind) (j : Nat) (hj : j ≤ k.bits) (hk : ∀ n : Int, 0 ≤ n → n < 2 ^ j → k.wrap n = n) (i : Nat) (x y : Nat) (hx : x < 2 ^ i) (hy : y * 2 ^ i < 2 ^ j) (hi : i ≤ j) : bits .or k x ((y * 2 ^ i : Nat) : Int) = ((x + y * 2 ^ i : Nat) : Int) := by
  have hx' : x < 2 ^ j := Nat.lt_of_lt_of_le hx (Nat.pow_le_pow_right (by decide) hi)
  rw [(bits_nat k j hj hk x (y * 2 ^ i) hx' hy).2, Nat.or_comm, Nat.mul_comm, ← Nat.two_pow_add_eq_or_of_lt hx, Nat.add_comm]
end Go.Proofs.YtfnedeaemjchgaaGreat
