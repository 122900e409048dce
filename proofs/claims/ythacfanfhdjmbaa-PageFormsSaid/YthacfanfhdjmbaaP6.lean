/- page: putCells. -/
import Derived.Test.YthacfanfhdjmbaaP5
namespace Go.Proofs.Ythacfanfhdjmbaa
open Go.RowKit Go.Maps
set_option linter.unusedSimpArgs false
set_option linter.unusedVariables false

/-- The bytes of the first k cells, and of j more of the next. -/
def cut (c : List Int) (k j : Nat) : Sec := cellsB (c.take k) ++ (cellB (c.getD k 0)).take j
theorem cut_zero (c : List Int) : cut c 0 0 = [] := by simp [cut, cellsB]
theorem cut_length (c : List Int) (k j : Nat) : (cut c k j).length ≤ 8 * k + 8 := by
  have := cellsB_length (c.take k)
  simp only [cut, List.length_append, List.length_take] at this ⊢
  rw [cellB_length]
  omega
theorem cut_step (c : List Int) (k j : Nat) (hj : j < 8) : cut c k (j + 1) = cut c k j ++ [cb (c.getD k 0) j] := by
  unfold cut
  rw [cellB_take _ _ hj, List.append_assoc]
theorem cut_row (c : List Int) (k : Nat) (hk : k < c.length) : cut c k 8 = cut c (k + 1) 0 := by
  unfold cut
  have h1 : (cellB (c.getD k 0)).take 8 = cellB (c.getD k 0) := List.take_of_length_le (by rw [cellB_length]; omega)
  have h2 : c.take (k + 1) = c.take k ++ [c.getD k 0] := by
    rw [List.take_add_one, List.getD_eq_getElem?_getD, List.getElem?_eq_getElem hk]
    rfl
  rw [h1, h2, cellsB_snoc, List.take_zero, List.append_nil]
theorem cut_all (c : List Int) : cut c c.length 0 = cellsB c := by simp [cut]

theorem make_480 (w : World) : (Instr.makeSlice 23 (.int .i64 0) (.int .i64 480)).run Try.prog w = .ok (.slice (some ⟨w.heap.size, 0, none⟩) 0 480) (w.alloc (.cells (enc (zs 480)) 5)) := by kernel_rfl
section
variable {w : World} {ops : Array Oper} {rest : List Oper} {o : Oper} {a : Act} {Q : Exit → Act → World → Prop}
theorem wpList_make480 (hg : o.guard = none) (hop : o.op = .makeSlice 23 (.const (.int .i64 0)) (.const (.int .i64 480)))
    (h : ∀ v' w', Own w' w.heap.size v' [] → Only [] w w' → wpList Try.prog ops Q rest (a.put o.dst v') w') : wpList Try.prog ops Q (o :: rest) a w := by
  have hs : (enc (zs 480)).size = 480 := by simp [enc, zs_length]
  have hown : Own (w.alloc (.cells (enc (zs 480)) 5)) w.heap.size (.slice (some ⟨w.heap.size, 0, none⟩) 0 480) [] :=
    ⟨rfl, .inr ⟨_, 480, _, rfl, Nat.le_refl _, heap_new w _, by simp, by unfold maxLen; omega, by rw [hs], by simp [bv]⟩⟩
  refine wpList_run hg _ ?_ (h _ _ hown ((Only.refl [] w).alloc _))
  simp only [execOp, hop, Act.eval, Sem.run_bind, make_480, Result.andThen_ok, Sem.run_pure]
end

set_option maxRecDepth 100000 in
theorem putCells_any (c : List Int) (w : World) (hc' : c.length = 60) (hin : ∀ z ∈ c, In64 z) :
    Calls Try.prog 31 #[.agg (ivA c)] w fun e w' => ∃ v, e = .returned v ∧ Own w' w.heap.size v (cellsB c) ∧ Only [] w w' := by
  have T1 := trivial
  have HI := Lib.hid hin
  have hc := hc'
  have HZ := Lib.hid (cut_zero c)
  have HA : Hid (cut c 60 0 = cellsB c) := Lib.hid (by rw [← cut_all c, hc])
  clear hin
  go_enter Try.func31, Try.ntmps31
  go_wp2_with (first
    | (clear T1
       refine wpList_box_cells rfl _ rfl c (by rfl) ?_
       intro w1 g1 hb1 hg1 ho1
       have HB1 := Lib.hid hb1
       have HO1 := Lib.hid ho1
       clear hb1 hg1 ho1)
    | (refine wpList_load_cells rfl _ rfl g1 (by rfl) c (HB1.out.kept HO2.out (by simp)) hc ?_)
    | (refine wpList_make480 rfl rfl ?_
       intro v2 w2 h2 ho2
       have HV2 := Lib.hid h2
       have HO2 := Lib.hid ho2
       clear h2 ho2))
  have HO := Lib.hid (HO1.out.trans HO2.out (by simp))
  have HV := Lib.hid (HV2.out.mono HO1.out.size)
  rw [← HZ.out] at HV
  clear HB1 HO1 HO2 HV2 hc
  have hc : c.length = 60 := hc'
  go_loopw [3, 5, 6, 9, 12] (fun s _ _ i _ wr => ∃ k : Nat, k ≤ 60 ∧ i = .int .i64 k ∧ Own wr w.heap.size s (cut c k 0) ∧ Only [] w wr) (fun _ _ _ i _ _ => 60 - (intOf i).toNat)
  case atStart => exact ⟨0, by omega, rfl, HV.out, HO.out⟩
  case round =>
    obtain ⟨k, hk, rfl, hs, ho⟩ := hrel
    by_cases hlt : k < 60
    · have hck : c[k]? = some (c.getD k 0) := by rw [List.getD_eq_getElem?_getD, List.getElem?_eq_getElem (by omega)]; rfl
      have hcv : ∀ w, (Instr.index 25 (.agg (ivA c)) (.int .i64 (k : Int))).run Try.prog w = .ok (.int .i64 (c.getD k 0)) w := fun w => index_cells c k _ hck hc w
      have hz := getD_in HI.out k
      have hrow := cut_row c k (by omega)
      have hstep : ∀ j, j < 8 → cut c k (j + 1) = cut c k j ++ [cb (c.getD k 0) j] := cut_step c k
      obtain ⟨z, hzd⟩ : ∃ z, z = c.getD k 0 := ⟨_, rfl⟩
      rw [← hzd] at hcv hz hstep
      have HS := Lib.hid hs
      have HO := Lib.hid ho
      have HR := Lib.hid hrow
      have HT := Lib.hid hstep
      clear hs ho hrow hstep hck hzd
      have hd10 : decide ((k : Int) < 60) = true := by simp; omega
      go_wp2_with fail
      go_loopw [3, 6, 12] (fun s _ i wr => ∃ j : Nat, j ≤ 8 ∧ i = .int .i64 j ∧ Own wr w.heap.size s (cut c k j) ∧ Only [] w wr) (fun _ _ i _ => 8 - (intOf i).toNat)
      case atStart => exact ⟨0, by omega, rfl, HS.out, HO.out⟩
      case round =>
        obtain ⟨j, hj, rfl, hs, ho⟩ := hrel
        by_cases hjt : j < 8
        · have HS1 := Lib.hid hs
          have HO1 := Lib.hid ho
          clear hs ho
          have hx : z / 2 ^ (8 * (7 - j)) % 256 = ((cb z j).toNat : Int) := by rw [cb_nat]; omega
          have HX := Lib.hid hx
          have hst := HT.out j hjt
          have HST := Lib.hid hst
          have hlen := cut_length c k j
          have hsz := HO1.out.size
          have HL := Lib.hid hlen
          clear hx hst hlen
          go_wp2_with (refine wpList_append_any rfl (.tmp 15) (.tmp 22) rfl w.heap.size _ (cut c k j) (by rfl) (HS1.out.quiet ((Only.refl [] wr).alloc _)) _ [cb z j] (by rfl) (bytes_one wr _ _ HX.out) ((cut c k j).length + 1) (by simp) (cut c k (j + 1)) HST.out.symm (by have := HL.out; omega) (by simp; omega) ?_; intro a5 c5 w5 h6 e5)
          have ho6 : Only [] w w5 := Ext.fresh (HO1.out.trans ((Only.refl [] wr).alloc _) (by simp)) (HS1.out.quiet ((Only.refl [] wr).alloc _)) (Nat.le_refl _) e5
          have H6 := Lib.hid h6
          have HO6 := Lib.hid ho6
          clear e5 h6 ho6
          go_roundw
          case rel => exact ⟨j + 1, by omega, by go_num, H6.out, HO6.out⟩
          case measure => simp [intOf]; omega
        · obtain rfl : j = 8 := by omega
          rw [HR.out] at hs
          have HS1 := Lib.hid hs
          have HO1 := Lib.hid ho
          clear hs ho
          go_wp2_with fail
          go_roundw
          case rel => exact ⟨k + 1, by omega, by go_num, HS1.out, HO1.out⟩
          case measure => simp [intOf]; omega
    · obtain rfl : k = 60 := by omega
      rw [HA.out] at hs
      have HS := Lib.hid hs
      have HO := Lib.hid ho
      clear hs ho
      go_wp2
      go_ret
      exact ⟨_, rfl, HS.out, HO.out⟩

end Go.Proofs.Ythacfanfhdjmbaa
