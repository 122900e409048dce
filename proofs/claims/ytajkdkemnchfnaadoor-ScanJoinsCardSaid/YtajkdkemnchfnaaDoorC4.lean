/- The scanner's signs, and what token a text begins with. -/
import Derived.Test.YtajkdkemnchfnaaDoorC3
namespace Go.Proofs.YtajkdkemnchfnaaDoor
open Go.RowKit Go.Maps
set_option linter.unusedSimpArgs false
set_option linter.unusedVariables false

theorem indexByte_has : ∀ (l : Sec) (c : UInt8), (0 ≤ Lib.indexByte l c) ↔ l.contains c = true
  | [], c => by simp [Lib.indexByte]
  | b :: l, c => by
    have ih := indexByte_has l c
    have hg := Lib.indexByte_ge l c
    simp only [Lib.indexByte, List.contains_cons]
    by_cases h : b = c
    · subst h
      simp
    · have h1 : (b == c) = false := by simpa using h
      have h2 : (c == b) = false := by simpa using fun e => h e.symm
      rw [h1, h2, Bool.false_or, ← ih]
      by_cases h3 : Lib.indexByte l c = -1
      · simp [h3]
      · have : (Lib.indexByte l c == -1) = false := by simpa using h3
        simp only [this, Bool.false_eq_true, if_false]
        omega
theorem byte_back (c : UInt8) : ((c.toNat : Int)).toNat.toUInt8 = c := by
  rw [Int.toNat_natCast]
  exact UInt8.ofNat_toNat
theorem IndexByte_ones (c : UInt8) (w : World) : Calls Tryd.prog 38 #[.string ⟨ones.toArray⟩, .int .u8 (c.toNat : Int)] w fun e w' => ∃ m : Int, e = .returned (.int .i64 m) ∧ (0 ≤ m ↔ ones.contains c = true) ∧ w = w' := by
  refine (Tryd.strings_IndexByte ⟨ones.toArray⟩ (c.toNat : Int) w).mono ?_
  rintro e w' ⟨rfl, rfl⟩
  refine ⟨_, rfl, ?_, rfl⟩
  rw [byte_back]
  exact indexByte_has ones c

theorem signN_two {l : Sec} (h : l.take 2 ∈ twos) : signN l = 2 := by
  unfold signN
  rw [if_pos (by simpa using h)]
theorem signN_one {l : Sec} {c : UInt8} (h : l.take 2 ∉ twos) (hc : l.head? = some c) : signN l = if ones.contains c = true then 1 else 0 := by
  unfold signN
  rw [if_neg (by simpa using h), hc]
  rfl
theorem neq_two {s : ByteArray} {l : Sec} (h : s.data.toList = l) (hn : l ∉ twos) : ∀ m ∈ twos, (s.toList == m) = false := fun m hm => str_neq (fun e => hn (by rw [← h, e]; exact hm))

set_option maxHeartbeats 2000000 in
theorem sign_two_yes (s X : ByteArray) (w : World) (hs : s.size ≤ 65536) (h2 : 2 ≤ s.size) (hX : X.data.toList = s.data.toList.take 2) (hm : s.data.toList.take 2 ∈ twos)
    (hsl : ∀ W, (Instr.slice 9 (.string s) none (some (.int .i64 2)) none).run Tryd.prog W = .ok (.string X) W) :
    Calls Tryd.prog 31 #[.string s] w fun e w' => e = .returned (.int .i64 (2 : Nat)) ∧ w = w' := by
  have hmin : min (2 : Int) (s.size : Int) = 2 := by omega
  have HX : ∀ {m : Sec}, X.data.toList = m → X = ⟨m.toArray⟩ := fun e => str_eq_iff.2 e
  simp only [twos, List.mem_cons, List.not_mem_nil, or_false] at hm
  rcases hm with h | h | h | h | h | h | h | h | h | h <;>
  · obtain rfl := HX (hX.trans h)
    clear h hX HX
    go_enter Tryd.func31, Tryd.ntmps31
    go_wp2
    go_ret
    exact ⟨rfl, rfl⟩
set_option maxHeartbeats 4000000 in
theorem sign_two_no (s X : ByteArray) (w : World) (hs : s.size ≤ 65536) (h2 : 2 ≤ s.size) (hpos : 0 < s.size) (hX : X.data.toList = s.data.toList.take 2) (hm : s.data.toList.take 2 ∉ twos) (hemp : s.toList.isEmpty = false) (hhd : s.data.toList.head? = some s[0])
    (hsl : ∀ W, (Instr.slice 9 (.string s) none (some (.int .i64 2)) none).run Tryd.prog W = .ok (.string X) W) :
    Calls Tryd.prog 31 #[.string s] w fun e w' => e = .returned (.int .i64 ((if ones.contains s[0] = true then 1 else 0 : Nat))) ∧ w = w' := by
  have hmin : min (2 : Int) (s.size : Int) = 2 := by omega
  have n1 := neq_two hX hm [43, 61] (by decide)
  have n2 := neq_two hX hm [45, 61] (by decide)
  have n3 := neq_two hX hm [60, 62] (by decide)
  have n4 := neq_two hX hm [60, 61] (by decide)
  have n5 := neq_two hX hm [62, 61] (by decide)
  have n6 := neq_two hX hm [61, 61] (by decide)
  have n7 := neq_two hX hm [33, 61] (by decide)
  have n8 := neq_two hX hm [38, 38] (by decide)
  have n9 := neq_two hX hm [124, 124] (by decide)
  have n10 := neq_two hX hm [46, 46] (by decide)
  have K := IndexByte_ones s[0] w
  obtain ⟨r, hr⟩ : ∃ r, r = if ones.contains s[0] = true then 1 else 0 := ⟨_, rfl⟩
  rw [← hr]
  have HR := Lib.hid hr
  clear hr hX hm hhd
  go_enter Tryd.func31, Tryd.ntmps31
  go_wp2_with (go_at_call 38; refine K.mono ?_; rintro e w' ⟨m, rfl, hm, rfl⟩; have HM := Lib.hid hm; clear hm)
  · have h : m < 0 := by assumption
    obtain rfl : r = 0 := by
      rw [HR.out, if_neg (fun e => by have := HM.out.2 e; omega)]
    go_ret
    exact ⟨rfl, rfl⟩
  · have h : 0 ≤ m := by assumption
    obtain rfl : r = 1 := by
      rw [HR.out, if_pos (HM.out.1 (by omega))]
    go_ret
    exact ⟨rfl, rfl⟩
set_option maxHeartbeats 4000000 in
theorem sign_one (s X : ByteArray) (w : World) (hs : s.size ≤ 65536) (h2 : s.size < 2) (hpos : 0 < s.size) (hX : X.data.toList = s.data.toList.take 2) (hm : s.data.toList.take 2 ∉ twos) (hemp : s.toList.isEmpty = false) (hhd : s.data.toList.head? = some s[0])
    (hsl : ∀ W, (Instr.slice 9 (.string s) none (some (.int .i64 (s.size : Int))) none).run Tryd.prog W = .ok (.string X) W) :
    Calls Tryd.prog 31 #[.string s] w fun e w' => e = .returned (.int .i64 ((if ones.contains s[0] = true then 1 else 0 : Nat))) ∧ w = w' := by
  have hmin : min (2 : Int) (s.size : Int) = s.size := by omega
  have n1 := neq_two hX hm [43, 61] (by decide)
  have n2 := neq_two hX hm [45, 61] (by decide)
  have n3 := neq_two hX hm [60, 62] (by decide)
  have n4 := neq_two hX hm [60, 61] (by decide)
  have n5 := neq_two hX hm [62, 61] (by decide)
  have n6 := neq_two hX hm [61, 61] (by decide)
  have n7 := neq_two hX hm [33, 61] (by decide)
  have n8 := neq_two hX hm [38, 38] (by decide)
  have n9 := neq_two hX hm [124, 124] (by decide)
  have n10 := neq_two hX hm [46, 46] (by decide)
  have K := IndexByte_ones s[0] w
  obtain ⟨r, hr⟩ : ∃ r, r = if ones.contains s[0] = true then 1 else 0 := ⟨_, rfl⟩
  rw [← hr]
  have HR := Lib.hid hr
  clear hr hX hm hhd
  go_enter Tryd.func31, Tryd.ntmps31
  go_wp2_with (go_at_call 38; refine K.mono ?_; rintro e w' ⟨m, rfl, hm, rfl⟩; have HM := Lib.hid hm; clear hm)
  · have h : m < 0 := by assumption
    obtain rfl : r = 0 := by
      rw [HR.out, if_neg (fun e => by have := HM.out.2 e; omega)]
    go_ret
    exact ⟨rfl, rfl⟩
  · have h : 0 ≤ m := by assumption
    obtain rfl : r = 1 := by
      rw [HR.out, if_pos (HM.out.1 (by omega))]
    go_ret
    exact ⟨rfl, rfl⟩
theorem sign_any (s : ByteArray) (w : World) (hs : s.size ≤ 65536) :
    Calls Tryd.prog 31 #[.string s] w fun e w' => e = .returned (.int .i64 (signN s.data.toList)) ∧ w = w' := by
  by_cases h0 : s.size = 0
  · obtain rfl := str_empty h0
    clear h0 hs
    have hmin : min (2 : Int) 0 = 0 := by decide
    have hsl : ∀ W, (Instr.slice 9 (.string ⟨#[]⟩) none (some (.int .i64 0)) none).run Tryd.prog W = .ok (.string ⟨#[]⟩) W := fun W => by kernel_rfl
    go_enter Tryd.func31, Tryd.ntmps31
    go_wp2
    go_ret
    exact ⟨rfl, rfl⟩
  · have hpos : 0 < s.size := by omega
    have hhd := str_head hpos
    by_cases h2 : 2 ≤ s.size
    · have hsl : ∀ W, (Instr.slice 9 (.string s) none (some (.int .i64 2)) none).run Tryd.prog W = .ok (.string (s.extract 0 2)) W := fun W => by
        rw [run_slice_string_to_if W 9 s .i64 _ Tryd.underlying9, if_pos ⟨by omega, by omega⟩]
        rfl
      have hX : (s.extract 0 2).data.toList = s.data.toList.take 2 := by rw [Lib.extract_data, List.drop_zero]
      by_cases hm : s.data.toList.take 2 ∈ twos
      · rw [signN_two hm]
        exact sign_two_yes s _ w hs h2 hX hm hsl
      · rw [signN_one hm hhd]
        exact sign_two_no s _ w hs h2 hpos hX hm (str_full h0) hhd hsl
    · have hsl : ∀ W, (Instr.slice 9 (.string s) none (some (.int .i64 (s.size : Int))) none).run Tryd.prog W = .ok (.string (s.extract 0 s.size)) W := fun W => by
        rw [run_slice_string_to_if W 9 s .i64 _ Tryd.underlying9, if_pos ⟨by omega, by omega⟩]
        rfl
      have hX : (s.extract 0 s.size).data.toList = s.data.toList.take 2 := by
        rw [Lib.extract_data, List.drop_zero, List.take_of_length_le (by rw [bytesLen]; omega), List.take_of_length_le (by rw [bytesLen]; omega)]
      have hm : s.data.toList.take 2 ∉ twos := fun hm => by
        have h3 : (s.data.toList.take 2).length = 2 := by
          simp only [twos, List.mem_cons, List.not_mem_nil, or_false] at hm
          rcases hm with h | h | h | h | h | h | h | h | h | h <;> rw [h] <;> rfl
        rw [List.length_take, bytesLen] at h3
        omega
      rw [signN_one hm hhd]
      exact sign_one s _ w hs (by omega) hpos hX hm (str_full h0) hhd hsl

set_option maxHeartbeats 1000000 in
theorem first_any (s : ByteArray) (w : World) (hs : s.size ≤ 65536) (he : Errs w) :
    Calls Tryd.prog 21 #[.string s] w fun e w' => e = .returned (.tuple #[.int .i64 (firstN s.data.toList).1, .int .i64 (firstN s.data.toList).2]) ∧ Only [] w w' := by
  have K1 := name_any s w (by omega)
  have K2 := number_any s w hs he
  have hl1 := nameN_le s.data.toList
  have hl2 := numN_le s.data.toList
  rw [bytesLen] at hl1 hl2
  unfold firstN
  generalize nameN s.data.toList = n1 at K1 hl1 ⊢
  generalize numN s.data.toList = n2 at K2 hl2 ⊢
  have K3 := fun W => sign_any s W hs
  generalize signN s.data.toList = n3 at K3 ⊢
  by_cases h1 : 0 < n1
  · rw [if_pos h1]
    clear K2 K3
    go_enter Tryd.func21, Tryd.ntmps21
    go_wp2_with (go_at_call 27; refine K1.mono ?_; rintro e w' ⟨rfl, rfl⟩)
    go_ret2
    exact ⟨rfl, Only.refl _ _⟩
  · obtain rfl : n1 = 0 := by omega
    rw [if_neg h1]
    by_cases h2 : 0 < n2
    · rw [if_pos h2]
      clear K3
      go_enter Tryd.func21, Tryd.ntmps21
      go_wp2_with (first
        | (go_at_call 27; refine K1.mono ?_; rintro e w' ⟨rfl, rfl⟩)
        | (go_at_call 30; refine K2.mono ?_; rintro e w1 ⟨rfl, o1⟩))
      go_ret2
      exact ⟨rfl, o1⟩
    · obtain rfl : n2 = 0 := by omega
      rw [if_neg h2]
      go_enter Tryd.func21, Tryd.ntmps21
      go_wp2_with fail
      refine K1.mono ?_
      rintro e w' ⟨rfl, rfl⟩
      go_wp2_with fail
      refine K2.mono ?_
      rintro e w1 ⟨rfl, o1⟩
      have K3 := K3 w1
      go_wp2_with fail
      refine K3.mono ?_
      rintro e w2 ⟨rfl, rfl⟩
      clear K1 K2 K3
      go_wp2
      go_ret2
      exact ⟨rfl, o1⟩
end Go.Proofs.YtajkdkemnchfnaaDoor
