/- What wire's laws have in common. -/
import Derived.Test.YtfnedeaemjchgaaGreatA
import Derived.Test.YtfnedeaemjchgaaGreatNum
import Derived.Test.YtfnedeaemjchgaaGreatS2
namespace Go.Proofs.YtfnedeaemjchgaaGreat
open Go.ChangeShapes Go.WideShapes Go.ChangeAt Go.RowKit Go.Deep Go.Maps
set_option linter.unusedSimpArgs false
set_option linter.unusedVariables false

theorem parts_arg1 {w : World} {s : Value} {l : Sec} (h : Bytes w s l) {v : Value} (hv : v = .slice (some ⟨w.heap.size, 0, none⟩) 1 1) : Parts (w.alloc (.cells #[s] 27)) v [l] := parts_made h hv
theorem iface_nil (w : World) : (binOp .eql 36 .nilIface .nilIface).run Tryz.prog w = .ok (.bool true) w := by kernel_rfl
theorem iface_err (n : Int) (w : World) : (binOp .eql 36 (err n) .nilIface).run Tryz.prog w = .ok (.bool false) w := by kernel_rfl
theorem strOf_append (a b : Sec) : strOf a ++ strOf b = strOf (a ++ b) := ByteArray.ext (by simp [strOf, ByteArray.data_append])
theorem strOf_size (a : Sec) : (strOf a).size = a.length := by simp [strOf, ByteArray.size]
theorem str_add {a b c : Sec} (h : a ++ b = c) (hl : c.length ≤ 9223372036854775807) {A B C : ByteArray} (hA : A = strOf a) (hB : B = strOf b) (hC : C = strOf c) (w : World) : (Op.stringOp .add A B).run Tryz.prog w = .ok (.string C) w := by
  subst hA; subst hB; subst hC; subst h
  rw [run_string_add_sum w _ _ (by rw [strOf_size, strOf_size]; simpa using hl), strOf_append]
theorem iface_ne (w : World) : (binOp .neq 36 .nilIface .nilIface).run Tryz.prog w = .ok (.bool false) w := by kernel_rfl
theorem iface_nerr (n : Int) (w : World) : (binOp .neq 36 (err n) .nilIface).run Tryz.prog w = .ok (.bool true) w := by kernel_rfl
theorem err_44 (w : World) : (binOp .eql 36 (err 4) (err 4)).run Tryz.prog w = .ok (.bool true) w := by kernel_rfl
theorem err_n44 (w : World) : (binOp .neq 36 (err 4) (err 4)).run Tryz.prog w = .ok (.bool false) w := by kernel_rfl


section
variable {H : Type} {enc : TypeId × Value → H} {W : World} {base : Nat} {sp : Nat → Bool} {held : Bool}
end

end Go.Proofs.YtfnedeaemjchgaaGreat
