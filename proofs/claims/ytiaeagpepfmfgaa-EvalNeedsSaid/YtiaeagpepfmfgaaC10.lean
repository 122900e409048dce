/- Numbers in decimal, and what the scanner finds in them. -/
import Derived.Test.YtiaeagpepfmfgaaC8
import Derived.Test.YtiaeagpepfmfgaaC9
import Derived.WalkMore
import Derived.Deep.LoopGhost
namespace Go.Proofs.Ytiaeagpepfmfgaa
open Go.RowKit Go.Maps
set_option linter.unusedSimpArgs false
set_option linter.unusedVariables false

theorem strOf_app (a b : Sec) : strOf a ++ strOf b = strOf (a ++ b) := by
  apply ByteArray.ext
  simp [strOf]
theorem strOf_len (a : Sec) : (strOf a).size = a.length := by simp [strOf, ByteArray.size]
theorem add_str {a b c : Sec} (h : a ++ b = c) (hl : c.length ≤ 9223372036854775807) {A B C : ByteArray} (hA : A = strOf a) (hB : B = strOf b) (hC : C = strOf c) (w : World) : (Op.stringOp .add A B).run Try.prog w = .ok (.string C) w := by
  subst hA; subst hB; subst hC; subst h
  rw [run_string_add_sum w _ _ (by rw [strOf_len, strOf_len]; simpa using hl), strOf_app]
def decL (u : Nat) : Sec := if h : u < 10 then [UInt8.ofNat (48 + u)] else decL (u / 10) ++ [UInt8.ofNat (48 + u % 10)]
termination_by u
decreasing_by omega
theorem decL_small {u : Nat} (h : u < 10) : decL u = [UInt8.ofNat (48 + u)] := by
  conv => lhs; unfold decL
  rw [dif_pos h]
theorem decL_big {u : Nat} (h : ¬ u < 10) : decL u = decL (u / 10) ++ [UInt8.ofNat (48 + u % 10)] := by
  conv => lhs; unfold decL
  rw [dif_neg h]
theorem digit_nat {k : Nat} (h : k < 10) : (UInt8.ofNat (48 + k)).toNat = 48 + k := by rw [UInt8.toNat_ofNat']; omega
theorem digit_dig {k : Nat} (h : k < 10) : isDig (UInt8.ofNat (48 + k)) = true := by
  simp only [isDig, digit_nat h, Bool.and_eq_true, decide_eq_true_eq]
  omega
theorem decL_ne (u : Nat) : decL u ≠ [] := by
  by_cases h : u < 10
  · rw [decL_small h]; simp
  · rw [decL_big h]; simp
theorem decL_dig : ∀ (k u : Nat), u < k → ∀ c ∈ decL u, isDig c = true
  | 0, u, h => by omega
  | k + 1, u, h => by
    intro c hc
    by_cases hu : u < 10
    · rw [decL_small hu, List.mem_singleton] at hc
      rw [hc]
      exact digit_dig hu
    · rw [decL_big hu] at hc
      rcases List.mem_append.1 hc with h1 | h1
      · exact decL_dig k (u / 10) (by omega) c h1
      · rw [List.mem_singleton] at h1
        rw [h1]
        exact digit_dig (by omega)
theorem valN_app : ∀ (l m : Sec) (acc : Nat), valN acc (l ++ m) = valN (valN acc l) m
  | [], m, acc => rfl
  | c :: r, m, acc => by
    rw [List.cons_append, valN_cons, valN_cons]
    exact valN_app r m _
theorem valN_one (acc : Nat) (c : UInt8) : valN acc [c] = acc * 10 + (c.toNat - 48) := by rw [valN_cons]; rfl
theorem decL_val : ∀ (k u : Nat), u < k → valN 0 (decL u) = u
  | 0, u, h => by omega
  | k + 1, u, h => by
    by_cases hu : u < 10
    · rw [decL_small hu, valN_one, digit_nat hu]
      omega
    · rw [decL_big hu, valN_app, decL_val k (u / 10) (by omega), valN_one, digit_nat (by omega)]
      omega
theorem decL_len : ∀ (k u : Nat), u < 10 ^ (k + 1) → (decL u).length ≤ k + 1
  | 0, u, h => by rw [decL_small (by omega)]; simp
  | k + 1, u, h => by
    by_cases hu : u < 10
    · rw [decL_small hu]; simp
    · have := decL_len k (u / 10) (by rw [Nat.pow_succ] at h; omega)
      rw [decL_big hu, List.length_append, List.length_singleton]
      omega
theorem decL_head : ∀ (k u : Nat), u < k → 0 < u → (decL u).head? ≠ some 48
  | 0, u, h, _ => by omega
  | k + 1, u, h, h0 => by
    by_cases hu : u < 10
    · rw [decL_small hu]
      intro e
      have e1 := congrArg UInt8.toNat (Option.some.inj e)
      rw [digit_nat hu] at e1
      have : (48 : UInt8).toNat = 48 := rfl
      omega
    · have ih := decL_head k (u / 10) (by omega) (by omega)
      rw [decL_big hu]
      cases hd : decL (u / 10) with
      | nil => exact absurd hd (decL_ne _)
      | cons c r =>
        rw [hd] at ih
        exact ih
theorem dec_short {u : Nat} (h : u < 9223372036854775808) : (decL u).length ≤ 19 := decL_len 18 u (by omega)

/-! ### what the scanner finds -/
theorem dig_not {c : UInt8} (h : isDig c = true) : isLet c = false ∧ isBlk c = false ∧ c.toNat ≠ 35 ∧ ones.contains c = false ∧ ∀ d, [c, d] ∉ twos := by
  simp [isDig] at h
  refine ⟨?_, ?_, by omega, ?_, fun d hd => ?_⟩
  · simp only [isLet, Bool.or_eq_false_iff, Bool.and_eq_false_iff, decide_eq_false_iff_not]
    omega
  · simp only [isBlk, Bool.or_eq_false_iff, decide_eq_false_iff_not]
    omega
  · rw [Bool.eq_false_iff]
    intro hc
    have hm : c ∈ ones := by simpa using hc
    simp only [ones, List.mem_cons, List.not_mem_nil, or_false] at hm
    rcases hm with e | e | e | e | e | e | e | e | e | e | e | e | e | e | e | e | e <;> rw [e] at h <;> revert h <;> decide
  · simp only [twos, List.mem_cons, List.not_mem_nil, or_false, List.cons.injEq, and_true] at hd
    rcases hd with e | e | e | e | e | e | e | e | e | e <;> rw [e.1] at h <;> revert h <;> decide
theorem nameN_dig {c : UInt8} {r : Sec} (h : isDig c = true) : nameN (c :: r) = 0 := by simp [nameN, (dig_not h).1]
theorem runN_digits {l : Sec} (h : ∀ c ∈ l, isDig c = true) : runN isDig l = l.length := (runN_whole isDig l).2 (List.all_eq_true.2 h)
theorem signN_dig {c : UInt8} {r : Sec} (h : isDig c = true) : signN (c :: r) = 0 := by
  obtain ⟨_, _, _, h1, h2⟩ := dig_not h
  have h3 : (c :: r).take 2 ∉ twos := by
    cases r with
    | nil => 
      intro hd
      simp [twos] at hd
    | cons d r => exact h2 d
  rw [signN_one h3 rfl, if_neg (by rw [h1]; simp)]
theorem lex_number {l : Sec} (h : ∀ c ∈ l, isDig c = true) (h0 : l ≠ []) (h1 : ¬ (1 < l.length ∧ l.head? = some 48)) (h2 : valN 0 l < 9223372036854775808) : lex l = .ok [⟨2, l, 0⟩, ⟨4, [], l.length⟩] := by
  obtain ⟨c, r, rfl⟩ : ∃ c r, l = c :: r := by
    cases l with
    | nil => exact absurd rfl h0
    | cons c r => exact ⟨c, r, rfl⟩
  obtain ⟨_, hb, hr, _⟩ := dig_not (h c (by simp))
  have hrun := runN_digits h
  have hnum : numN (c :: r) = (c :: r).length := by
    unfold numN
    rw [hrun, List.take_length, if_neg (fun e => e.elim h1 (fun e => by omega))]
  have hf : firstN (c :: r) = (2, (c :: r).length) := by
    unfold firstN
    rw [nameN_dig (h c (by simp)), hnum, if_neg (by omega), if_pos (by simp)]
  rw [lex_eq, lexG_step 0 c r hb hr, hf]
  simp only
  rw [if_neg (by simp), List.drop_length, List.take_length, lexG_nil, Nat.zero_add]
  rfl
theorem lex_nought {l : Sec} (h : ∀ c ∈ l, isDig c = true) (h0 : l ≠ []) : lex (48 :: l) = .error 0 := by
  have h' : ∀ c ∈ (48 : UInt8) :: l, isDig c = true := fun c hc => by
    rcases List.mem_cons.1 hc with e | e
    · rw [e]; rfl
    · exact h c e
  have hp : 0 < l.length := List.length_pos_iff.2 h0
  have hrun := runN_digits h'
  have hnum : numN (48 :: l) = 0 := by
    unfold numN
    rw [hrun, if_pos (.inl ⟨by simp; omega, rfl⟩)]
  have hf : firstN (48 :: l) = (3, 0) := by
    unfold firstN
    rw [nameN_dig (h' 48 (by simp)), hnum, signN_dig (h' 48 (by simp)), if_neg (by omega), if_neg (by omega)]
  rw [lex_eq, lexG_step 0 48 l (by rfl) (by decide), hf]
  rfl
theorem lex_dec {u : Nat} (h : u < 9223372036854775808) : lex (decL u) = .ok [⟨2, decL u, 0⟩, ⟨4, [], (decL u).length⟩] := by
  refine lex_number (decL_dig _ u (Nat.lt_succ_self u)) (decL_ne u) ?_ (by rw [decL_val _ u (Nat.lt_succ_self u)]; exact h)
  rintro ⟨h1, h2⟩
  by_cases h0 : 0 < u
  · exact decL_head _ u (Nat.lt_succ_self u) h0 h2
  · obtain rfl : u = 0 := by omega
    rw [decL_small (by omega)] at h1
    simp at h1

/-! ### Decimal -/
def DInv (n m : Nat) (t : Sec) : Prop := (t = [] ∧ m = n) ∨ (t ≠ [] ∧ (m = 0 ∧ decL n = t ∨ 0 < m ∧ decL n = decL m ++ t))
theorem DInv.step {n m : Nat} {t : Sec} (h : DInv n m t) (h1 : t = [] ∨ 0 < m) : DInv n (m / 10) (UInt8.ofNat (48 + m % 10) :: t) := by
  refine .inr ⟨by simp, ?_⟩
  have hd : m < 10 → UInt8.ofNat (48 + m % 10) = UInt8.ofNat (48 + m) := fun h => by rw [Nat.mod_eq_of_lt h]
  rcases h with ⟨rfl, rfl⟩ | ⟨h2, h3⟩
  · by_cases hm : m < 10
    · exact .inl ⟨by omega, by rw [decL_small hm, hd hm]⟩
    · exact .inr ⟨by omega, decL_big hm⟩
  · have h4 : 0 < m := h1.resolve_left h2
    rcases h3 with ⟨h5, _⟩ | ⟨_, h5⟩
    · omega
    · by_cases hm : m < 10
      · exact .inl ⟨by omega, by rw [h5, decL_small hm, hd hm]; rfl⟩
      · exact .inr ⟨by omega, by rw [h5, decL_big hm, List.append_assoc]; rfl⟩
theorem DInv.len {n m : Nat} {t : Sec} (h : DInv n m t) (hn : n < 9223372036854775808) : t.length ≤ 19 := by
  have := dec_short hn
  rcases h with ⟨rfl, rfl⟩ | ⟨_, ⟨_, h⟩ | ⟨_, h⟩⟩
  · simp
  · rw [← h]; exact this
  · rw [h, List.length_append] at this
    omega
theorem strOf_ne {t : Sec} (h : t ≠ []) : (strOf t).size ≠ 0 := by
  rw [strOf_len]
  intro e
  exact h (List.eq_nil_of_length_eq_zero e)
end Go.Proofs.Ytiaeagpepfmfgaa
