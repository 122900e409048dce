/- wire's laws: the chapter's example runs as it says. -/
import Derived.Test.YtfnedeaemjchgaaGreatN4
import Derived.Test.YtfnedeaemjchgaaGreatN8
import Derived.Lib.SlBytesConst
namespace Go.Proofs.YtfnedeaemjchgaaGreat
open Go.RowKit Go.Maps
set_option linter.unusedSimpArgs false
set_option linter.unusedVariables false

theorem ints_made (w : World) (ns : List Int) {cs : Array Value} (hcs : cs = (iv ns).toArray) (hw : ∀ x ∈ ns, (Lit.int .i64 x).wf = true) (n : Nat) (hn : n = ns.length) {v : Value} (hv : v = .slice (some ⟨w.heap.size, 0, none⟩) n n) : IntsV (w.alloc (.cells cs 3)) v ns := by
  subst hcs
  subst hn
  subst hv
  refine ⟨_, _, rfl, fun i x hi => ⟨hw x (List.mem_of_getElem? hi), w.heap.size, 0, rfl, ?_⟩⟩
  rw [cell_at _ (heap_new w _)]
  simp [iv, hi]
theorem bytes_made (w : World) (l : Sec) {cs : Array Value} {fr : Nat × Nat} (hcs : cs = enc l) (n : Nat) (hn : n = l.length) {v : Value} (hv : v = .slice (some ⟨w.heap.size, 0, none⟩) n n) : Bytes (w.alloc (.cells cs 5 fr)) v l := by
  subst hcs
  subst hn
  subst hv
  refine ⟨_, _, rfl, fun i c hi => ⟨w.heap.size, 0, rfl, ?_⟩⟩
  rw [Nat.zero_add, cell_at i (heap_new w _), enc_get, hi]
  rfl
theorem bytes_nil (w : World) (c : Nat) : Bytes w (.slice none 0 c) [] := ⟨none, c, rfl, fun i x h => by simp at h⟩
theorem nums_ex : nums [0, -1, 1, 64] = [0, 1, 2, 128, 1] := by
  have e0 : num 0 = [0] := dig_low (u := 0) (by decide)
  have e1 : num (-1) = [1] := dig_low (u := 1) (by decide)
  have e2 : num 1 = [2] := dig_low (u := 2) (by decide)
  have e3 : num 64 = [128, 1] := by
    show dig 128 = _
    rw [dig_high (by decide), dig_low (by decide)]
    rfl
  simp [nums, e0, e1, e2, e3]
theorem crc_ex : crc [49, 50, 51, 52, 53, 54, 55, 56, 57] = 3421780262 := by decide +kernel
theorem box_ex : (boxOf 10 [104, 105]).drop 4 = [0, 2, 104, 105, 0, 0] := by decide +kernel

theorem conv_lit (w : World) (C : Array Value) (n c : Nat) : (convert 27 27 (.slice (some ⟨w.heap.size, 0, none⟩) n c)).run Tryz.prog (w.alloc (.cells C 5)) = .ok (.slice (some ⟨w.heap.size, 0, none⟩) n c) (w.alloc (.cells C 5 (C.size, C.size + 1))) :=
  Lib.run_convert_bytes_const (P := Tryz.prog) w 27 5 C n c Tryz.underlying27 Tryz.underlying5
theorem conv_lit2 (w : World) (X : Obj) (C : Array Value) (n c : Nat) : (convert 27 27 (.slice (some ⟨w.heap.size + 1, 0, none⟩) n c)).run Tryz.prog ((w.alloc X).alloc (.cells C 5)) = .ok (.slice (some ⟨w.heap.size + 1, 0, none⟩) n c) ((w.alloc X).alloc (.cells C 5 (C.size, C.size + 1))) := by
  have := conv_lit (w.alloc X) C n c
  simpa using this
end Go.Proofs.YtfnedeaemjchgaaGreat
