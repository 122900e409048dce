/- The scanner's signs, and what token a text begins with. -/
import Derived.Test.YtiaeagpepfmfgaaC3
namespace Go.Proofs.Ytiaeagpepfmfgaa
open Go.RowKit Go.Maps
set_option linter.unusedSimpArgs false
set_option linter.unusedVariables false

theorem indexByte_has : ∀ (l : Sec) (c : UInt8), (0 ≤ Lib.indexByte l c) ↔ l.contains c = true
  | [], c => by simp [Lib.indexByte]
  | b :: l, c => by
    have ih := indexByte_has l c
    have hg := Lib.indexByte_ge l c
    simp only [Lib.indexByte, List.contains_cons]
    by_cases h : b = c
    · subst h
      simp
    · have h1 : (b == c) = false := by simpa using h
      have h2 : (c == b) = false := by simpa using fun e => h e.symm
      rw [h1, h2, Bool.false_or, ← ih]
      by_cases h3 : Lib.indexByte l c = -1
      · simp [h3]
      · have : (Lib.indexByte l c == -1) = false := by simpa using h3
        simp only [this, Bool.false_eq_true, if_false]
        omega
theorem byte_back (c : UInt8) : ((c.toNat : Int)).toNat.toUInt8 = c := by
  rw [Int.toNat_natCast]
  exact UInt8.ofNat_toNat
theorem signN_two {l : Sec} (h : l.take 2 ∈ twos) : signN l = 2 := by
  unfold signN
  rw [if_pos (by simpa using h)]
theorem signN_one {l : Sec} {c : UInt8} (h : l.take 2 ∉ twos) (hc : l.head? = some c) : signN l = if ones.contains c = true then 1 else 0 := by
  unfold signN
  rw [if_neg (by simpa using h), hc]
  rfl
theorem neq_two {s : ByteArray} {l : Sec} (h : s.data.toList = l) (hn : l ∉ twos) : ∀ m ∈ twos, (s.toList == m) = false := fun m hm => str_neq (fun e => hn (by rw [← h, e]; exact hm))

end Go.Proofs.Ytiaeagpepfmfgaa
