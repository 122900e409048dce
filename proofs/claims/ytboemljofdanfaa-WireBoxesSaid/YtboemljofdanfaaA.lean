/- wire's laws: the chapter's example runs as it says. -/
import Derived.Test.YtboemljofdanfaaN4
import Derived.Test.YtboemljofdanfaaN8
import Derived.Lib.SlBytesConst
namespace Go.Proofs.Ytboemljofdanfaa
open Go.RowKit Go.Maps
set_option linter.unusedSimpArgs false
set_option linter.unusedVariables false

theorem ints_made (w : World) (ns : List Int) {cs : Array Value} (hcs : cs = (iv ns).toArray) (hw : ∀ x ∈ ns, (Lit.int .i64 x).wf = true) (n : Nat) (hn : n = ns.length) {v : Value} (hv : v = .slice (some ⟨w.heap.size, 0, none⟩) n n) : IntsV (w.alloc (.cells cs 3)) v ns := by
  subst hcs
  subst hn
  subst hv
  refine ⟨_, _, rfl, fun i x hi => ⟨hw x (List.mem_of_getElem? hi), w.heap.size, 0, rfl, ?_⟩⟩
  rw [cell_at _ (heap_new w _)]
  simp [iv, hi]
theorem bytes_made (w : World) (l : Sec) {cs : Array Value} {fr : Nat × Nat} (hcs : cs = enc l) (n : Nat) (hn : n = l.length) {v : Value} (hv : v = .slice (some ⟨w.heap.size, 0, none⟩) n n) : Bytes (w.alloc (.cells cs 5 fr)) v l := by
  subst hcs
  subst hn
  subst hv
  refine ⟨_, _, rfl, fun i c hi => ⟨w.heap.size, 0, rfl, ?_⟩⟩
  rw [Nat.zero_add, cell_at i (heap_new w _), enc_get, hi]
  rfl
theorem bytes_nil (w : World) (c : Nat) : Bytes w (.slice none 0 c) [] := ⟨none, c, rfl, fun i x h => by simp at h⟩
theorem nums_ex : nums [0, -1, 1, 64] = [0, 1, 2, 128, 1] := by
  have e0 : num 0 = [0] := dig_low (u := 0) (by decide)
  have e1 : num (-1) = [1] := dig_low (u := 1) (by decide)
  have e2 : num 1 = [2] := dig_low (u := 2) (by decide)
  have e3 : num 64 = [128, 1] := by
    show dig 128 = _
    rw [dig_high (by decide), dig_low (by decide)]
    rfl
  simp [nums, e0, e1, e2, e3]
theorem crc_ex : crc [49, 50, 51, 52, 53, 54, 55, 56, 57] = 3421780262 := by decide +kernel
theorem box_ex : (boxOf 10 [104, 105]).drop 4 = [0, 2, 104, 105, 0, 0] := by decide +kernel

theorem conv_lit (w : World) (C : Array Value) (n c : Nat) : (convert 22 22 (.slice (some ⟨w.heap.size, 0, none⟩) n c)).run Try.prog (w.alloc (.cells C 5)) = .ok (.slice (some ⟨w.heap.size, 0, none⟩) n c) (w.alloc (.cells C 5 (C.size, C.size + 1))) :=
  Lib.run_convert_bytes_const (P := Try.prog) w 22 5 C n c Try.underlying22 Try.underlying5
theorem conv_lit2 (w : World) (X : Obj) (C : Array Value) (n c : Nat) : (convert 22 22 (.slice (some ⟨w.heap.size + 1, 0, none⟩) n c)).run Try.prog ((w.alloc X).alloc (.cells C 5)) = .ok (.slice (some ⟨w.heap.size + 1, 0, none⟩) n c) ((w.alloc X).alloc (.cells C 5 (C.size, C.size + 1))) := by
  have := conv_lit (w.alloc X) C n c
  simpa using this
set_option maxRecDepth 100000 in
set_option maxHeartbeats 1600000 in
theorem alive_any (w : World) : Calls Try.prog 9 #[] w fun e w' => e = .returned (.bool true) ∧ Only [] w w' := by
  go_enter Try.func9, Try.ntmps9
  have kc := conv_lit
  have kc2 := conv_lit2
  go_wp2_with fail
  have HP : Parts (((w.alloc (.cells #[.int .u8 104] 5 (1, 2))).alloc (.cells #[.int .u8 105] 5 (1, 2))).alloc (.cells #[.slice (some ⟨w.heap.size, 0, none⟩) 1 1, .slice (some ⟨w.heap.size + 1, 0, none⟩) 1 1] 22)) (.slice (some ⟨w.heap.size + 1 + 1, 0, none⟩) 2 2) [[104], [105]] :=
    parts_made2 ((bytes_made w [104] rfl 1 rfl rfl).kept ((Only.refl [] _).alloc _) (clean_nil _)) (bytes_made _ [105] rfl 1 rfl (by simp)) (by simp)
  have HO : Only [] w (((w.alloc (.cells #[.int .u8 104] 5 (1, 2))).alloc (.cells #[.int .u8 105] 5 (1, 2))).alloc (.cells #[.slice (some ⟨w.heap.size, 0, none⟩) 1 1, .slice (some ⟨w.heap.size + 1, 0, none⟩) 1 1] 22)) := (((Only.refl [] w).alloc _).alloc _).alloc _
  generalize ((w.alloc (.cells #[.int .u8 104] 5 (1, 2))).alloc (.cells #[.int .u8 105] 5 (1, 2))).alloc (.cells #[.slice (some ⟨w.heap.size, 0, none⟩) 1 1, .slice (some ⟨w.heap.size + 1, 0, none⟩) 1 1] 22) = W1 at HP HO ⊢
  refine (Box_any 10 _ [[104], [105]] _ (by decide) (by decide) HP (by simp) (by simp) (by decide)).mono ?_
  rintro e w1 ⟨g, rfl, hb1, hg1, ho1⟩
  have HB1 := Lib.hid hb1
  have HO1 := Lib.hid (HO.trans ho1 (by simp))
  clear HP HO hb1 ho1
  go_wp2_with fail
  have hp := Put_any (.slice none 0 0) [] (.slice (some ⟨w1.heap.size, 0, none⟩) 4 4) [0, -1, 1, 64] (w1.alloc (.cells #[.int .i64 0, .int .i64 (-1), .int .i64 1, .int .i64 64] 3)) (bytes_nil _ _) (ints_made w1 [0, -1, 1, 64] rfl (by decide) 4 rfl rfl) (by simp) (by simp)
  rw [nums_ex] at hp
  refine hp.mono ?_
  rintro e w2 ⟨a, cap, rfl, hw2, ho2⟩
  have s5 := str_bytes (S := ⟨#[0, 1, 2, 128, 1]⟩) hw2.bytes rfl
  have HO2 := Lib.hid (HO1.out.trans (((Only.refl [] w1).alloc _).trans ho2 (by simp)) (by simp))
  have HB2 := Lib.hid (HB1.out.kept (((Only.refl [] w1).alloc _).trans ho2 (by simp) : Only [] w1 w2) (by simp))
  clear hp hw2 ho2 HB1 HO1
  simp only [List.length_nil, List.length_cons, Nat.zero_add] at s5 ⊢
  go_wp2_with fail
  clear s5
  have HP : Parts (((w2.alloc (.cells #[.int .u8 49, .int .u8 50, .int .u8 51, .int .u8 52] 5 (4, 5))).alloc (.cells #[.int .u8 53, .int .u8 54, .int .u8 55, .int .u8 56, .int .u8 57] 5 (5, 6))).alloc (.cells #[.slice (some ⟨w2.heap.size, 0, none⟩) 4 4, .slice (some ⟨w2.heap.size + 1, 0, none⟩) 5 5] 22)) (.slice (some ⟨w2.heap.size + 1 + 1, 0, none⟩) 2 2) [[49, 50, 51, 52], [53, 54, 55, 56, 57]] :=
    parts_made2 ((bytes_made w2 [49, 50, 51, 52] rfl 4 rfl rfl).kept ((Only.refl [] _).alloc _) (clean_nil _)) (bytes_made _ [53, 54, 55, 56, 57] rfl 5 rfl (by simp)) (by simp)
  have HO : Only [] w2 (((w2.alloc (.cells #[.int .u8 49, .int .u8 50, .int .u8 51, .int .u8 52] 5 (4, 5))).alloc (.cells #[.int .u8 53, .int .u8 54, .int .u8 55, .int .u8 56, .int .u8 57] 5 (5, 6))).alloc (.cells #[.slice (some ⟨w2.heap.size, 0, none⟩) 4 4, .slice (some ⟨w2.heap.size + 1, 0, none⟩) 5 5] 22)) := (((Only.refl [] w2).alloc _).alloc _).alloc _
  generalize ((w2.alloc (.cells #[.int .u8 49, .int .u8 50, .int .u8 51, .int .u8 52] 5 (4, 5))).alloc (.cells #[.int .u8 53, .int .u8 54, .int .u8 55, .int .u8 56, .int .u8 57] 5 (5, 6))).alloc (.cells #[.slice (some ⟨w2.heap.size, 0, none⟩) 4 4, .slice (some ⟨w2.heap.size + 1, 0, none⟩) 5 5] 22) = W3 at HP HO ⊢
  have hc := Check_any _ [[49, 50, 51, 52], [53, 54, 55, 56, 57]] W3 HP (by simp) (by simp)
  have ef : ([[49, 50, 51, 52], [53, 54, 55, 56, 57]] : List Sec).flatten = [49, 50, 51, 52, 53, 54, 55, 56, 57] := rfl
  rw [ef, crc_ex] at hc
  refine hc.mono ?_
  rintro e w3 ⟨rfl, rfl⟩
  have hb3 := (HB2.out.kept HO (by simp)).from_ 4 6 6 (by decide) (by decide)
  have e6 : (boxOf 10 ([[104], [105]] : List Sec).flatten).drop 4 = [0, 2, 104, 105, 0, 0] := box_ex
  rw [e6] at hb3
  have s6 := str_bytes (S := ⟨#[0, 2, 104, 105, 0, 0]⟩) hb3 rfl
  have HO3 := Lib.hid (HO2.out.trans HO (by simp))
  clear hc ef HP HO hb3 e6 HB2 kc kc2
  go_wp2
  go_ret
  exact ⟨rfl, HO3.out⟩
end Go.Proofs.Ytboemljofdanfaa
