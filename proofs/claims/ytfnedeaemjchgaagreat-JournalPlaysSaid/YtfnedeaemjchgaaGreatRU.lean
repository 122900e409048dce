/- The document's own answer for wire: what is in a box. -/
import Derived.Test.YtfnedeaemjchgaaGreatRB
namespace Go.Proofs.YtfnedeaemjchgaaGreat
open Go.RowKit Go.Maps
set_option linter.unusedSimpArgs false
set_option linter.unusedVariables false

def inN (l : Sec) : Nat := val ((l.drop 4).take 2)
theorem unbox_some {l d : Sec} (h : unbox l = some d) : 6 ≤ l.length ∧ l.length ≤ 65536 ∧ inN l ≤ l.length - 6 ∧ d = (l.drop 6).take (inN l) := by
  have h0 := unbox_inv h
  unfold unbox at h
  split at h
  · cases h
  split at h
  · cases h
  split at h
  · cases h
  rename_i h3
  split at h
  · cases h
  injection h with h
  exact ⟨h0.1, h0.2.1, by unfold inN; omega, h.symm⟩
theorem inN_bytes {l : Sec} {a b : UInt8} (ha : l[4]? = some a) (hb : l[5]? = some b) : inN l = 256 * a.toNat + b.toNat := by
  unfold inN
  have e : l.drop 4 = a :: b :: l.drop 6 := by rw [drop_at ha, drop_at hb]
  rw [e]
  simp [val]
  omega
theorem strOf_inj {a b : Sec} (h : strOf a = strOf b) : a = b := by
  have := congrArg (fun x => x.data.toList) h
  simpa [strOf] using this

theorem str_ne {A B : ByteArray} {a b : Sec} (hA : A = strOf a) (hB : B = strOf b) (h : a ≠ b) : (A.toList == B.toList) = false := by
  subst hA; subst hB
  unfold strOf
  rw [ByteArray.toList_mk, ByteArray.toList_mk, beq_eq_false_iff_ne]
  exact h

def RUnboxPost (w : World) (l : Sec) (e : Ending) (w' : World) : Prop :=
  (unbox l = none → e = .returned (.tuple #[.slice none 0 0, .bool false])) ∧
  (∀ d, unbox l = some d → ∃ a c, e = .returned (.tuple #[.slice a d.length c, .bool true]) ∧ Own w' w.heap.size (.slice a d.length c) d) ∧
  Only [] w w'
theorem RUnboxPost.none {w w' : World} {l : Sec} {v : Value} (h : unbox l = none) (hv : v = .tuple #[.slice none 0 0, .bool false]) (ho : Only [] w w') : RUnboxPost w l (.returned v) w' :=
  ⟨(fun _ => by rw [hv]), (fun d hd => by rw [h] at hd; cases hd), ho⟩

end Go.Proofs.YtfnedeaemjchgaaGreat
