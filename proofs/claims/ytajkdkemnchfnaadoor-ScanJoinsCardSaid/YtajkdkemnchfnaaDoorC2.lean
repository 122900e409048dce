/- The scanner's smallest functions: kinds of bytes, and how many bytes of a kind a text begins with. -/
import Derived.Test.YtajkdkemnchfnaaDoorB2
import Derived.Test.YtajkdkemnchfnaaDoorC1
import Derived.LoopTactic
namespace Go.Proofs.YtajkdkemnchfnaaDoor
open Go.RowKit Go.Maps
set_option linter.unusedSimpArgs false
set_option linter.unusedVariables false

def letV (x : Int) : Bool := if 97 ≤ x then decide (x ≤ 122) else if 65 ≤ x then decide (x ≤ 90) else false
theorem letV_eq (c : UInt8) : letV (c.toNat : Int) = isLet c := by
  have h := c.toNat_lt
  rw [Bool.eq_iff_iff]
  unfold letV isLet
  simp only [Bool.or_eq_true, Bool.and_eq_true, decide_eq_true_eq]
  split
  · simp only [decide_eq_true_eq]
    omega
  · split
    · simp only [decide_eq_true_eq]
      omega
    · simp only [Bool.false_eq_true, false_iff]
      omega
theorem letV_true {x : Int} (h : 97 ≤ x ∧ x ≤ 122 ∨ 65 ≤ x ∧ x ≤ 90) : letV x = true := by
  unfold letV
  split
  · simp; omega
  · rw [if_pos (by omega)]; simp; omega
theorem letV_false {x : Int} (h : ¬ (97 ≤ x ∧ x ≤ 122 ∨ 65 ≤ x ∧ x ≤ 90)) : letV x = false := by
  unfold letV
  split
  · simp; omega
  · split
    · simp; omega
    · rfl
set_option maxHeartbeats 1000000 in
theorem isLetter_int (x : Int) (w : World) : Calls Tryd.prog 34 #[.int .u8 x] w fun e w' => e = .returned (.bool (letV x)) ∧ w = w' := by
  by_cases h1 : 97 ≤ x
  · by_cases h2 : x ≤ 122
    · rw [letV_true (by omega)]
      have d2 : decide (x ≤ 122) = true := by simpa using h2
      go_enter Tryd.func34, Tryd.ntmps34
      go_wp2
      go_ret
      exact ⟨rfl, rfl⟩
    · rw [letV_false (by omega)]
      have h3 : 65 ≤ x := by omega
      have d2 : decide (x ≤ 122) = false := by simpa using h2
      have d4 : decide (x ≤ 90) = false := by simp; omega
      go_enter Tryd.func34, Tryd.ntmps34
      go_wp2
      go_ret
      exact ⟨rfl, rfl⟩
  · by_cases h3 : 65 ≤ x
    · by_cases h4 : x ≤ 90
      · rw [letV_true (by omega)]
        have d4 : decide (x ≤ 90) = true := by simpa using h4
        go_enter Tryd.func34, Tryd.ntmps34
        go_wp2
        go_ret
        exact ⟨rfl, rfl⟩
      · rw [letV_false (by omega)]
        have d4 : decide (x ≤ 90) = false := by simpa using h4
        go_enter Tryd.func34, Tryd.ntmps34
        go_wp2
        go_ret
        exact ⟨rfl, rfl⟩
    · rw [letV_false (by omega)]
      go_enter Tryd.func34, Tryd.ntmps34
      go_wp2
      go_ret
      exact ⟨rfl, rfl⟩
theorem isLetter_any (c : UInt8) (w : World) : Calls Tryd.prog 34 #[.int .u8 (c.toNat : Int)] w fun e w' => e = .returned (.bool (isLet c)) ∧ w = w' := by
  rw [← letV_eq]
  exact isLetter_int _ w
theorem isDigit_any (c : UInt8) (w : World) : Calls Tryd.prog 36 #[.int .u8 (c.toNat : Int)] w fun e w' => e = .returned (.bool (isDig c)) ∧ w = w' := by
  by_cases h1 : 48 ≤ c.toNat
  · by_cases h2 : c.toNat ≤ 57
    · have e : isDig c = true := by simp [isDig, h1, h2]
      rw [e]
      have d2 : decide ((c.toNat : Int) ≤ 57) = true := by simp; omega
      go_enter Tryd.func36, Tryd.ntmps36
      go_wp2
      go_ret
      exact ⟨rfl, rfl⟩
    · have e : isDig c = false := by simp [isDig, h2]
      rw [e]
      have d2 : decide ((c.toNat : Int) ≤ 57) = false := by simp; omega
      go_enter Tryd.func36, Tryd.ntmps36
      go_wp2
      go_ret
      exact ⟨rfl, rfl⟩
  · have e : isDig c = false := by simp [isDig, h1]
    rw [e]
    go_enter Tryd.func36, Tryd.ntmps36
    go_wp2
    go_ret
    exact ⟨rfl, rfl⟩
theorem isRem_any (c : UInt8) (w : World) : Calls Tryd.prog 29 #[.int .u8 (c.toNat : Int)] w fun e w' => e = .returned (.bool (isRem c)) ∧ w = w' := by
  by_cases h1 : c.toNat = 10
  · have e : isRem c = false := by simp [isRem, h1]
    rw [e, h1]
    clear h1 e
    go_enter Tryd.func29, Tryd.ntmps29
    go_wp2
    go_ret
    exact ⟨rfl, rfl⟩
  · have e : isRem c = true := by simp [isRem, h1]
    rw [e]
    have h2 : ((c.toNat : Int) != 10) = true := by simp; omega
    clear h1 e
    go_enter Tryd.func29, Tryd.ntmps29
    go_wp2
    go_ret
    exact ⟨rfl, rfl⟩
theorem isWord_any (c : UInt8) (w : World) : Calls Tryd.prog 35 #[.int .u8 (c.toNat : Int)] w fun e w' => e = .returned (.bool (isWrd c)) ∧ w = w' := by
  have KL := isLetter_any c w
  have KD := isDigit_any c w
  cases h1 : isLet c with
  | true =>
    have e : isWrd c = true := by simp [isWrd, h1]
    rw [e]
    rw [h1] at KL
    clear h1 e
    go_enter Tryd.func35, Tryd.ntmps35
    go_wp2_with (first
      | (go_at_call 34; refine KL.mono ?_; rintro e w' ⟨rfl, rfl⟩)
      | (go_at_call 36; refine KD.mono ?_; rintro e w' ⟨rfl, rfl⟩))
    go_ret
    exact ⟨rfl, rfl⟩
  | false =>
    rw [h1] at KL
    cases h2 : isDig c with
    | true =>
      have e : isWrd c = true := by simp [isWrd, h2]
      rw [e]
      rw [h2] at KD
      clear h1 h2 e
      go_enter Tryd.func35, Tryd.ntmps35
      go_wp2_with (first
        | (go_at_call 34; refine KL.mono ?_; rintro e w' ⟨rfl, rfl⟩)
        | (go_at_call 36; refine KD.mono ?_; rintro e w' ⟨rfl, rfl⟩))
      go_ret
      exact ⟨rfl, rfl⟩
    | false =>
      rw [h2] at KD
      by_cases h3 : c.toNat = 95
      · have e : isWrd c = true := by simp [isWrd, h3]
        rw [e]
        have h4 : ((c.toNat : Int) == 95) = true := by simp; omega
        clear h1 h2 e h3
        go_enter Tryd.func35, Tryd.ntmps35
        go_wp2_with (first
          | (go_at_call 34; refine KL.mono ?_; rintro e w' ⟨rfl, rfl⟩)
          | (go_at_call 36; refine KD.mono ?_; rintro e w' ⟨rfl, rfl⟩))
        go_ret
        exact ⟨rfl, rfl⟩
      · have e : isWrd c = false := by simp [isWrd, h1, h2, h3]
        rw [e]
        have h4 : ((c.toNat : Int) == 95) = false := by simp; omega
        clear h1 h2 e h3
        go_enter Tryd.func35, Tryd.ntmps35
        go_wp2_with (first
          | (go_at_call 34; refine KL.mono ?_; rintro e w' ⟨rfl, rfl⟩)
          | (go_at_call 36; refine KD.mono ?_; rintro e w' ⟨rfl, rfl⟩))
        go_ret
        exact ⟨rfl, rfl⟩

theorem byteAt (s : ByteArray) (k : Nat) (h : k < s.size) : s.data.toList[k]? = some s[k] := by
  rw [List.getElem?_eq_getElem (by simpa using h)]
  rfl
theorem bytesLen (s : ByteArray) : s.data.toList.length = s.size := by simp [Array.length_toList]

set_option maxHeartbeats 1000000 in
theorem run_dig (s : ByteArray) (w : World) (hs : s.size ≤ 9223372036854775807) :
    Calls Tryd.prog 28 #[.string s, .func (.func 36) #[] #[]] w fun e w' => e = .returned (.int .i64 (runN isDig s.data.toList)) ∧ w = w' := by
  obtain ⟨n, hn⟩ : ∃ n, n = runN isDig s.data.toList := ⟨_, rfl⟩
  have hle : n ≤ s.size := by rw [hn, ← bytesLen]; exact runN_le _ _
  have hend : ∀ (h : n < s.size), isDig s[n] = false := fun h => runN_end isDig s.data.toList _ (by rw [← hn]; exact byteAt s n h)
  have hall : ∀ k (h : k < s.size), k < n → isDig s[k] = true := fun k h hk => runN_all isDig s.data.toList k _ (by rw [← hn]; exact hk) (byteAt s k h)
  rw [← hn]
  clear hn
  have HE := Lib.hid hend
  have HA := Lib.hid hall
  clear hend hall
  go_enter Tryd.func28, Tryd.ntmps28
  go_wp2
  go_loop [8] (fun i => ∃ k : Nat, k ≤ n ∧ i = .int .i64 k) (fun i => s.size - (intOf i).toNat)
  case atStart => exact ⟨0, Nat.zero_le _, rfl⟩
  case round =>
    obtain ⟨k, hk, rfl⟩ := hrel
    by_cases hlt : k < s.size
    · have K := isDigit_any s[k] w
      by_cases hkn : k < n
      · rw [HA.out k hlt hkn] at K
        go_wp2_with (go_at_call 36; refine K.mono ?_; rintro e w' ⟨rfl, rfl⟩)
        go_round
        case rel => exact ⟨k + 1, by omega, by go_num⟩
        case measure => simp [intOf]; omega
      · obtain rfl : k = n := by omega
        rw [HE.out hlt] at K
        go_wp2_with (go_at_call 36; refine K.mono ?_; rintro e w' ⟨rfl, rfl⟩)
        go_ret
        exact ⟨rfl, rfl⟩
    · obtain rfl : n = s.size := by omega
      go_wp2
      go_ret
      exact ⟨rfl, rfl⟩
set_option maxHeartbeats 1000000 in
theorem run_wrd (s : ByteArray) (w : World) (hs : s.size ≤ 9223372036854775807) :
    Calls Tryd.prog 28 #[.string s, .func (.func 35) #[] #[]] w fun e w' => e = .returned (.int .i64 (runN isWrd s.data.toList)) ∧ w = w' := by
  obtain ⟨n, hn⟩ : ∃ n, n = runN isWrd s.data.toList := ⟨_, rfl⟩
  have hle : n ≤ s.size := by rw [hn, ← bytesLen]; exact runN_le _ _
  have hend : ∀ (h : n < s.size), isWrd s[n] = false := fun h => runN_end isWrd s.data.toList _ (by rw [← hn]; exact byteAt s n h)
  have hall : ∀ k (h : k < s.size), k < n → isWrd s[k] = true := fun k h hk => runN_all isWrd s.data.toList k _ (by rw [← hn]; exact hk) (byteAt s k h)
  rw [← hn]
  clear hn
  have HE := Lib.hid hend
  have HA := Lib.hid hall
  clear hend hall
  go_enter Tryd.func28, Tryd.ntmps28
  go_wp2
  go_loop [8] (fun i => ∃ k : Nat, k ≤ n ∧ i = .int .i64 k) (fun i => s.size - (intOf i).toNat)
  case atStart => exact ⟨0, Nat.zero_le _, rfl⟩
  case round =>
    obtain ⟨k, hk, rfl⟩ := hrel
    by_cases hlt : k < s.size
    · have K := isWord_any s[k] w
      by_cases hkn : k < n
      · rw [HA.out k hlt hkn] at K
        go_wp2_with (go_at_call 35; refine K.mono ?_; rintro e w' ⟨rfl, rfl⟩)
        go_round
        case rel => exact ⟨k + 1, by omega, by go_num⟩
        case measure => simp [intOf]; omega
      · obtain rfl : k = n := by omega
        rw [HE.out hlt] at K
        go_wp2_with (go_at_call 35; refine K.mono ?_; rintro e w' ⟨rfl, rfl⟩)
        go_ret
        exact ⟨rfl, rfl⟩
    · obtain rfl : n = s.size := by omega
      go_wp2
      go_ret
      exact ⟨rfl, rfl⟩
set_option maxHeartbeats 1000000 in
theorem run_rem (s : ByteArray) (w : World) (hs : s.size ≤ 9223372036854775807) :
    Calls Tryd.prog 28 #[.string s, .func (.func 29) #[] #[]] w fun e w' => e = .returned (.int .i64 (runN isRem s.data.toList)) ∧ w = w' := by
  obtain ⟨n, hn⟩ : ∃ n, n = runN isRem s.data.toList := ⟨_, rfl⟩
  have hle : n ≤ s.size := by rw [hn, ← bytesLen]; exact runN_le _ _
  have hend : ∀ (h : n < s.size), isRem s[n] = false := fun h => runN_end isRem s.data.toList _ (by rw [← hn]; exact byteAt s n h)
  have hall : ∀ k (h : k < s.size), k < n → isRem s[k] = true := fun k h hk => runN_all isRem s.data.toList k _ (by rw [← hn]; exact hk) (byteAt s k h)
  rw [← hn]
  clear hn
  have HE := Lib.hid hend
  have HA := Lib.hid hall
  clear hend hall
  go_enter Tryd.func28, Tryd.ntmps28
  go_wp2
  go_loop [8] (fun i => ∃ k : Nat, k ≤ n ∧ i = .int .i64 k) (fun i => s.size - (intOf i).toNat)
  case atStart => exact ⟨0, Nat.zero_le _, rfl⟩
  case round =>
    obtain ⟨k, hk, rfl⟩ := hrel
    by_cases hlt : k < s.size
    · have K := isRem_any s[k] w
      by_cases hkn : k < n
      · rw [HA.out k hlt hkn] at K
        go_wp2_with (go_at_call 29; refine K.mono ?_; rintro e w' ⟨rfl, rfl⟩)
        go_round
        case rel => exact ⟨k + 1, by omega, by go_num⟩
        case measure => simp [intOf]; omega
      · obtain rfl : k = n := by omega
        rw [HE.out hlt] at K
        go_wp2_with (go_at_call 29; refine K.mono ?_; rintro e w' ⟨rfl, rfl⟩)
        go_ret
        exact ⟨rfl, rfl⟩
    · obtain rfl : n = s.size := by omega
      go_wp2
      go_ret
      exact ⟨rfl, rfl⟩
end Go.Proofs.YtajkdkemnchfnaaDoor
