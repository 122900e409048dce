/- Numbers as bytes: plain facts. Nothing of the program is named here. -/
namespace Go.Proofs.YtfnedeaemjchgaaGreat

/-- The digits of u, seven bits a byte, the lowest first. -/
def dig (u : Nat) : List UInt8 := if u < 128 then [UInt8.ofNat u] else UInt8.ofNat (u % 128 + 128) :: dig (u / 128)
  termination_by u
  decreasing_by omega
theorem dig_low {u : Nat} (h : u < 128) : dig u = [UInt8.ofNat u] := by rw [dig, if_pos h]
theorem dig_high {u : Nat} (h : 128 ≤ u) : dig u = UInt8.ofNat (u % 128 + 128) :: dig (u / 128) := by rw [dig, if_neg (by omega)]
theorem dig_pos (u : Nat) : 1 ≤ (dig u).length := by rw [dig]; split <;> simp
theorem dig_one (u : Nat) : (dig u).length = 1 ↔ u < 128 := by
  rw [dig]
  split
  · simp_all
  · have := dig_pos (u / 128)
    rw [List.length_cons]
    omega
theorem dig_le : ∀ (k u : Nat), u < 128 ^ (k + 1) → (dig u).length ≤ k + 1
  | 0, u, h => by rw [dig_low (by simpa using h)]; simp
  | k + 1, u, h => by
    by_cases h1 : u < 128
    · rw [dig_low h1]; simp
    · rw [dig_high (by omega)]
      have := dig_le k (u / 128) (by rw [Nat.pow_succ] at h; omega)
      simp
      omega
theorem dig_ten {u : Nat} (h : u < 18446744073709551616) : (dig u).length ≤ 10 := dig_le 9 u (Nat.lt_of_lt_of_le h (by decide))

/-- A number as it is turned. -/
def turnN (n : Int) : Nat := if n < 0 then (-2 * n - 1).toNat else (2 * n).toNat
def backN (u : Nat) : Int := if u % 2 = 1 then -((u / 2 : Nat) : Int) - 1 else ((u / 2 : Nat) : Int)
theorem turnN_lt {n : Int} (h0 : -9223372036854775808 ≤ n) (h1 : n ≤ 9223372036854775807) : turnN n < 18446744073709551616 := by unfold turnN; split <;> omega
theorem back_turn (n : Int) : backN (turnN n) = n := by unfold backN turnN; split <;> split <;> omega
theorem turn_back (u : Nat) : turnN (backN u) = u := by unfold backN turnN; split <;> split <;> omega
theorem backN_lo {u : Nat} (h : u < 18446744073709551616) : -9223372036854775808 ≤ backN u := by unfold backN; split <;> omega
theorem backN_hi {u : Nat} (h : u < 18446744073709551616) : backN u ≤ 9223372036854775807 := by unfold backN; split <;> omega
theorem turnN_small (n : Int) : turnN n < 128 ↔ -64 ≤ n ∧ n < 64 := by unfold turnN; split <;> omega

def num (n : Int) : List UInt8 := dig (turnN n)
def nums (ns : List Int) : List UInt8 := (ns.map num).flatten
theorem num_pos (n : Int) : 1 ≤ (num n).length := dig_pos _
theorem num_ten {n : Int} (h0 : -9223372036854775808 ≤ n) (h1 : n ≤ 9223372036854775807) : (num n).length ≤ 10 := dig_ten (turnN_lt h0 h1)
theorem nums_snoc (ns : List Int) (n : Int) : nums (ns ++ [n]) = nums ns ++ num n := by simp [nums]
theorem nums_cons (ns : List Int) (n : Int) : nums (n :: ns) = num n ++ nums ns := by simp [nums]
theorem nums_len : ∀ (ns : List Int), (∀ n ∈ ns, -9223372036854775808 ≤ n ∧ n ≤ 9223372036854775807) → (nums ns).length ≤ 10 * ns.length
  | [], _ => by simp [nums]
  | n :: ns, h => by
    have h1 := h n (by simp)
    have h2 := num_ten h1.1 h1.2
    have h3 := nums_len ns (fun m hm => h m (by simp [hm]))
    rw [nums_cons, List.length_append, List.length_cons]
    omega

/-- May a number end with this byte at i? -/
def endsB (i : Nat) (c : UInt8) : Bool := if i = 9 then decide (c = 1) else decide (i = 0) || decide (c ≠ 0)
/-- The number that l begins with, its first byte being the i-th: how it is turned, and how many bytes it has. -/
def scan : Nat → List UInt8 → Option (Nat × Nat)
  | _, [] => none
  | i, c :: r => if 128 ≤ c.toNat then (if i < 9 then (scan (i + 1) r).map fun p => (c.toNat - 128 + 128 * p.1, p.2 + 1) else none) else if endsB i c then some (c.toNat, 1) else none

theorem u8_ofNat {n : Nat} (h : n < 256) : (UInt8.ofNat n).toNat = n := by rw [UInt8.toNat_ofNat']; omega
theorem u8_eq {c : UInt8} {n : Nat} (h : c.toNat = n) : c = UInt8.ofNat n := UInt8.toNat_inj.1 (by rw [UInt8.toNat_ofNat']; have := c.toNat_lt; omega)

theorem pow_cut {i : Nat} (h : i ≤ 8) : 2 ^ (64 - 7 * i) = 128 * 2 ^ (64 - 7 * (i + 1)) := by
  have e : 64 - 7 * i = 7 + (64 - 7 * (i + 1)) := by omega
  rw [e, Nat.pow_add]

theorem scan_dig (u : Nat) : ∀ (i : Nat) (rest : List UInt8), i ≤ 9 → u < 2 ^ (64 - 7 * i) → (0 < i → 0 < u) → scan i (dig u ++ rest) = some (u, (dig u).length) := by
  induction u using Nat.strongRecOn with
  | ind u ih =>
    intro i rest hi hu hp
    by_cases h1 : u < 128
    · rw [dig_low h1]
      have hc : (UInt8.ofNat u).toNat = u := u8_ofNat (by omega)
      have he : endsB i (UInt8.ofNat u) = true := by
        unfold endsB
        split
        · rename_i e
          subst e
          have h2 : u < 2 := by simpa using hu
          have h3 := hp (by omega)
          obtain rfl : u = 1 := by omega
          rfl
        · by_cases e : i = 0
          · simp [e]
          · have h3 := hp (by omega)
            have : UInt8.ofNat u ≠ 0 := fun e2 => by
              rw [e2] at hc
              simp at hc
              omega
            simp [this]
      simp only [List.cons_append, List.nil_append, scan, hc, he]
      rw [if_neg (by omega)]
      simp
    · rw [dig_high (by omega)]
      have hc : (UInt8.ofNat (u % 128 + 128)).toNat = u % 128 + 128 := u8_ofNat (by omega)
      have hi9 : i < 9 := by
        rcases Nat.lt_or_ge i 9 with h | h
        · exact h
        · obtain rfl : i = 9 := by omega
          have : u < 2 := by simpa using hu
          omega
      have hr := ih (u / 128) (by omega) (i + 1) rest (by omega) (by rw [pow_cut (by omega)] at hu; omega) (fun _ => by omega)
      simp only [List.cons_append, scan, hc, hr]
      rw [if_pos (by omega), if_pos hi9]
      simp
      omega

theorem scan_inv : ∀ (l : List UInt8) (i u k : Nat), i ≤ 9 → scan i l = some (u, k) → dig u = l.take k ∧ k ≤ l.length ∧ u < 2 ^ (64 - 7 * i) ∧ (0 < i → 0 < u) ∧ 1 ≤ k
  | [], i, u, k, _, h => by simp [scan] at h
  | c :: r, i, u, k, hi, h => by
    simp only [scan] at h
    have hc := c.toNat_lt
    by_cases h1 : 128 ≤ c.toNat
    · rw [if_pos h1] at h
      by_cases h2 : i < 9
      · rw [if_pos h2] at h
        obtain ⟨⟨u', k'⟩, hp, e⟩ := Option.map_eq_some_iff.1 h
        simp only [Prod.mk.injEq] at e
        obtain ⟨rfl, rfl⟩ := e
        obtain ⟨g1, g2, g3, g4, g5⟩ := scan_inv r (i + 1) u' k' (by omega) hp
        have g6 := g4 (by omega)
        have e1 : (c.toNat - 128 + 128 * u') / 128 = u' := by omega
        have e2 : (c.toNat - 128 + 128 * u') % 128 + 128 = c.toNat := by omega
        refine ⟨?_, by simp; omega, by rw [pow_cut (by omega)]; omega, fun _ => by omega, by omega⟩
        rw [dig_high (by omega), e1, e2, g1, List.take_succ_cons]
        congr 1
        exact (u8_eq rfl).symm
      · rw [if_neg h2] at h
        cases h
    · rw [if_neg h1] at h
      by_cases h2 : endsB i c = true
      · rw [if_pos h2] at h
        simp only [Option.some.injEq, Prod.mk.injEq] at h
        obtain ⟨rfl, rfl⟩ := h
        refine ⟨?_, by simp, ?_, fun hp => ?_, by omega⟩
        · rw [dig_low (by omega)]
          simp only [List.take_succ_cons, List.take_zero]
          congr 1
          exact (u8_eq rfl).symm
        · unfold endsB at h2
          by_cases e : i = 9
          · subst e
            simp at h2
            rw [h2]
            decide
          · have e1 : 128 ≤ 2 ^ (64 - 7 * i) := Nat.le_trans (by decide : 128 ≤ 2 ^ (64 - 7 * 8)) (Nat.pow_le_pow_right (by decide) (by omega))
            omega
        · unfold endsB at h2
          by_cases e : i = 9
          · subst e
            simp at h2
            rw [h2]
            decide
          · rw [if_neg e] at h2
            simp [show i ≠ 0 by omega] at h2
            rcases Nat.eq_zero_or_pos c.toNat with h3 | h3
            · exact absurd (UInt8.toNat_inj.1 (by rw [h3]; rfl)) h2
            · exact h3
      · rw [if_neg h2] at h
        cases h

/-- What the bytes begin with: the number, and how many bytes it has. -/
def takeN (l : List UInt8) : Option (Int × Nat) := (scan 0 l).map fun p => (backN p.1, p.2)
theorem takeN_num {n : Int} (h0 : -9223372036854775808 ≤ n) (h1 : n ≤ 9223372036854775807) (rest : List UInt8) : takeN (num n ++ rest) = some (n, (num n).length) := by
  unfold takeN num
  rw [scan_dig _ 0 rest (by omega) (turnN_lt h0 h1) (fun h => by omega)]
  simp [back_turn]
theorem takeN_inv {l : List UInt8} {n : Int} {k : Nat} (h : takeN l = some (n, k)) : num n = l.take k ∧ k ≤ l.length ∧ 1 ≤ k ∧ -9223372036854775808 ≤ n ∧ n ≤ 9223372036854775807 := by
  obtain ⟨⟨u, k'⟩, hp, e⟩ := Option.map_eq_some_iff.1 h
  simp only [Prod.mk.injEq] at e
  obtain ⟨rfl, rfl⟩ := e
  obtain ⟨g1, g2, g3, _, g5⟩ := scan_inv l 0 u k' (by omega) hp
  exact ⟨by unfold num; rw [turn_back, g1], g2, g5, backN_lo g3, backN_hi g3⟩

/-- k bytes have been read, and are acc together. -/
def Acc (l : List UInt8) (k acc : Nat) : Prop := scan 0 l = (scan k (l.drop k)).map fun p => (acc + 128 ^ k * p.1, p.2 + k)
theorem Acc.zero (l : List UInt8) : Acc l 0 0 := by
  unfold Acc
  simp only [List.drop_zero, Nat.pow_zero, Nat.one_mul, Nat.zero_add, Nat.add_zero]
  cases scan 0 l <;> rfl
theorem drop_at {l : List UInt8} {k : Nat} {c : UInt8} (h : l[k]? = some c) : l.drop k = c :: l.drop (k + 1) := by
  obtain ⟨h1, h2⟩ := List.getElem?_eq_some_iff.1 h
  rw [List.drop_eq_getElem_cons h1, h2]
theorem Acc.step {l : List UInt8} {k acc : Nat} (h : Acc l k acc) {c : UInt8} (hc : l[k]? = some c) (h1 : 128 ≤ c.toNat) (hk : k < 9) : Acc l (k + 1) (acc + 128 ^ k * (c.toNat - 128)) := by
  unfold Acc at h ⊢
  rw [h, drop_at hc, scan, if_pos h1, if_pos hk]
  cases scan (k + 1) (l.drop (k + 1)) with
  | none => simp only [Option.map_none]
  | some p =>
    simp only [Option.map_some, Option.some.injEq, Prod.mk.injEq]
    refine ⟨?_, by omega⟩
    rw [Nat.pow_succ, Nat.mul_add, Nat.mul_assoc]
    omega
theorem Acc.stop {l : List UInt8} {k acc : Nat} (h : Acc l k acc) {c : UInt8} (hc : l[k]? = some c) (h1 : 128 ≤ c.toNat) (hk : ¬ k < 9) : scan 0 l = none := by
  unfold Acc at h
  rw [h, drop_at hc, scan, if_pos h1, if_neg hk]
  rfl
theorem Acc.ends {l : List UInt8} {k acc : Nat} (h : Acc l k acc) {c : UInt8} (hc : l[k]? = some c) (h1 : ¬ 128 ≤ c.toNat) (he : endsB k c = true) : scan 0 l = some (acc + 128 ^ k * c.toNat, k + 1) := by
  unfold Acc at h
  rw [h, drop_at hc, scan, if_neg h1, if_pos he]
  simp
  omega
theorem Acc.bad {l : List UInt8} {k acc : Nat} (h : Acc l k acc) {c : UInt8} (hc : l[k]? = some c) (h1 : ¬ 128 ≤ c.toNat) (he : endsB k c = false) : scan 0 l = none := by
  unfold Acc at h
  rw [h, drop_at hc, scan, if_neg h1, if_neg (by simp [he])]
  rfl
theorem Acc.over {l : List UInt8} {acc : Nat} (h : Acc l l.length acc) : scan 0 l = none := by
  unfold Acc at h
  rw [h, List.drop_eq_nil_of_le (Nat.le_refl _), scan]
  rfl

/-- So many numbers, and the bytes behind them. -/
def takesN : Nat → List UInt8 → Option (List Int × List UInt8)
  | 0, l => some ([], l)
  | c + 1, l => match takeN l with
    | none => none
    | some (n, k) => (takesN c (l.drop k)).map fun p => (n :: p.1, p.2)
theorem takesN_nums : ∀ (ns : List Int) (rest : List UInt8), (∀ n ∈ ns, -9223372036854775808 ≤ n ∧ n ≤ 9223372036854775807) → takesN ns.length (nums ns ++ rest) = some (ns, rest)
  | [], rest, _ => by simp [takesN, nums]
  | n :: ns, rest, h => by
    have h1 := h n (by simp)
    rw [List.length_cons, takesN, nums_cons, List.append_assoc, takeN_num h1.1 h1.2]
    simp only [List.drop_left, takesN_nums ns rest (fun m hm => h m (by simp [hm])), Option.map_some]

/-- A row, and the bytes behind it. -/
def takeR (l : List UInt8) : Option (List UInt8 × List UInt8) := match takeN l with
  | none => none
  | some (n, k) => if n < 0 ∨ ((l.length - k : Nat) : Int) < n then none else some ((l.drop k).take n.toNat, (l.drop k).drop n.toNat)
def rowB (r : List UInt8) : List UInt8 := num r.length ++ r
theorem takeR_row (r rest : List UInt8) (h : r.length ≤ 9223372036854775807) : takeR (rowB r ++ rest) = some (r, rest) := by
  unfold takeR rowB
  rw [List.append_assoc, takeN_num (by omega) (by omega)]
  simp only [List.drop_left]
  rw [if_neg (by simp; omega)]
  simp
end Go.Proofs.YtfnedeaemjchgaaGreat
