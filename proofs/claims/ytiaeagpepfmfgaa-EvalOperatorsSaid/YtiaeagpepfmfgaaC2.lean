/- The scanner's smallest functions: kinds of bytes, and how many bytes of a kind a text begins with. -/
import Derived.Test.YtiaeagpepfmfgaaB2
import Derived.Test.YtiaeagpepfmfgaaC1
import Derived.LoopTactic
namespace Go.Proofs.Ytiaeagpepfmfgaa
open Go.RowKit Go.Maps
set_option linter.unusedSimpArgs false
set_option linter.unusedVariables false

def letV (x : Int) : Bool := if 97 ≤ x then decide (x ≤ 122) else if 65 ≤ x then decide (x ≤ 90) else false
theorem letV_eq (c : UInt8) : letV (c.toNat : Int) = isLet c := by
  have h := c.toNat_lt
  rw [Bool.eq_iff_iff]
  unfold letV isLet
  simp only [Bool.or_eq_true, Bool.and_eq_true, decide_eq_true_eq]
  split
  · simp only [decide_eq_true_eq]
    omega
  · split
    · simp only [decide_eq_true_eq]
      omega
    · simp only [Bool.false_eq_true, false_iff]
      omega
theorem letV_true {x : Int} (h : 97 ≤ x ∧ x ≤ 122 ∨ 65 ≤ x ∧ x ≤ 90) : letV x = true := by
  unfold letV
  split
  · simp; omega
  · rw [if_pos (by omega)]; simp; omega
theorem letV_false {x : Int} (h : ¬ (97 ≤ x ∧ x ≤ 122 ∨ 65 ≤ x ∧ x ≤ 90)) : letV x = false := by
  unfold letV
  split
  · simp; omega
  · split
    · simp; omega
    · rfl
theorem byteAt (s : ByteArray) (k : Nat) (h : k < s.size) : s.data.toList[k]? = some s[k] := by
  rw [List.getElem?_eq_getElem (by simpa using h)]
  rfl
theorem bytesLen (s : ByteArray) : s.data.toList.length = s.size := by simp [Array.length_toList]

end Go.Proofs.Ytiaeagpepfmfgaa
