/- What wire's laws have in common. -/
import Derived.Test.YtboemljofdanfaaA
import Derived.Test.YtboemljofdanfaaNum
import Derived.Test.YtboemljofdanfaaS2
namespace Go.Proofs.Ytboemljofdanfaa
open Go.ChangeShapes Go.WideShapes Go.ChangeAt Go.RowKit Go.Deep Go.Maps
set_option linter.unusedSimpArgs false
set_option linter.unusedVariables false

theorem parts_arg1 {w : World} {s : Value} {l : Sec} (h : Bytes w s l) {v : Value} (hv : v = .slice (some ⟨w.heap.size, 0, none⟩) 1 1) : Parts (w.alloc (.cells #[s] 22)) v [l] := parts_made h hv
theorem iface_nil (w : World) : (binOp .eql 36 .nilIface .nilIface).run Try.prog w = .ok (.bool true) w := by kernel_rfl
theorem iface_err (n : Int) (w : World) : (binOp .eql 36 (err n) .nilIface).run Try.prog w = .ok (.bool false) w := by kernel_rfl
theorem strOf_append (a b : Sec) : strOf a ++ strOf b = strOf (a ++ b) := ByteArray.ext (by simp [strOf, ByteArray.data_append])
theorem strOf_size (a : Sec) : (strOf a).size = a.length := by simp [strOf, ByteArray.size]
theorem str_add {a b c : Sec} (h : a ++ b = c) (hl : c.length ≤ 9223372036854775807) {A B C : ByteArray} (hA : A = strOf a) (hB : B = strOf b) (hC : C = strOf c) (w : World) : (Op.stringOp .add A B).run Try.prog w = .ok (.string C) w := by
  subst hA; subst hB; subst hC; subst h
  rw [run_string_add_sum w _ _ (by rw [strOf_size, strOf_size]; simpa using hl), strOf_append]
theorem iface_ne (w : World) : (binOp .neq 36 .nilIface .nilIface).run Try.prog w = .ok (.bool false) w := by kernel_rfl
theorem iface_nerr (n : Int) (w : World) : (binOp .neq 36 (err n) .nilIface).run Try.prog w = .ok (.bool true) w := by kernel_rfl
theorem err_44 (w : World) : (binOp .eql 36 (err 4) (err 4)).run Try.prog w = .ok (.bool true) w := by kernel_rfl
theorem err_n44 (w : World) : (binOp .neq 36 (err 4) (err 4)).run Try.prog w = .ok (.bool false) w := by kernel_rfl

set_option maxRecDepth 100000 in
theorem ints_same (v1 v2 : Value) (xs : List Int) (w : World) (h1 : IntsV w v1 xs) (h2 : IntsV w v2 xs) (hlen : xs.length ≤ 4611686018427387904) :
    Calls Try.prog 17 #[v1, v2] w fun e w' => e = .returned (.bool true) ∧ Only [] w w' := by
  have H1 := Lib.hid h1
  have H2 := Lib.hid h2
  obtain ⟨a1, c1, rfl, -⟩ := h1
  obtain ⟨a2, c2, rfl, -⟩ := h2
  go_enter Try.func17, Try.ntmps17
  go_wp2_with fail
  go_loopw [5, 13] (fun _ i wr => ∃ k : Nat, k ≤ xs.length ∧ i = .int .i64 k ∧ Only [] w wr) (fun _ i _ => xs.length - (intOf i).toNat)
  case atStart => exact ⟨0, by omega, rfl, Only.refl _ _⟩
  case round =>
    obtain ⟨k, hk, rfl, ho⟩ := hrel
    by_cases hlt : k < xs.length
    · have hkl : xs[k]? = some xs[k] := List.getElem?_eq_getElem hlt
      obtain ⟨_, b1, f1, p1, hv1, d1⟩ := (H1.out.kept ho (fun _ _ _ _ _ => by simp)).at_ hkl
      obtain ⟨_, b2, f2, p2, hv2, d2⟩ := (H2.out.kept ho (fun _ _ _ _ _ => by simp)).at_ hkl
      cases hv1
      cases hv2
      have k0 : (0 : Int) ≤ (k : Int) := by omega
      have k1 : (k : Int) < (xs.length : Int) := by omega
      clear hkl
      go_wp2_with fail
      go_quiet (fail)
      go_wp2_with fail
      go_roundw
      case rel => exact ⟨k + 1, by omega, by go_num, ⟨ho.os, ho.tape, ho.output, ho.size, ho.block⟩⟩
      case measure => simp [intOf]; omega
    · obtain rfl : k = xs.length := by omega
      go_wp2_with fail
      go_ret
      exact ⟨rfl, ho⟩

end Go.Proofs.Ytboemljofdanfaa
