/- page: Set. -/
import Derived.Test.YthacfanfhdjmbaaP4
namespace Go.Proofs.Ythacfanfhdjmbaa
open Go.RowKit Go.Maps
set_option linter.unusedSimpArgs false
set_option linter.unusedVariables false

def setR : List Int → List Img → Option (List Int)
  | c, [] => some c
  | c, p :: l => if 0 ≤ p.1 ∧ p.1 < 60 then setR (c.set p.1.toNat p.2) l else none
theorem setR_length : ∀ (l : List Img) (c d : List Int), setR c l = some d → d.length = c.length
  | [], c, d, h => by
    simp [setR] at h
    rw [h]
  | p :: l, c, d, h => by
    unfold setR at h
    split at h
    · have := setR_length l _ d h
      simpa using this
    · simp at h
def SetPost (n : Int) (c : List Int) (l : List Img) (w : World) (e : Ending) (w' : World) : Prop :=
  Only [] w w' ∧ (∀ d, setR c l = some d → e = .returned (.tuple #[.agg (ivA (n :: d)), .nilIface])) ∧ (setR c l = none → e = .returned (.tuple #[.agg (ivA (0 :: blankP)), err 1]))

set_option maxRecDepth 100000 in
theorem Set_any (n : Int) (c : List Int) (v : Value) (l : List Img) (w : World) (hc : c.length = 60) (hv : ImgsV w v l) (hl : l.length ≤ 4611686018427387904) :
    Calls Try.prog 19 #[.agg (ivA (n :: c)), v] w (SetPost n c l w) := by
  obtain ⟨a, cap, rfl, -⟩ := id hv
  have HV := Lib.hid hv
  clear hv
  have T1 := trivial
  have T2 := trivial
  go_enter Try.func19, Try.ntmps19
  go_wp2_with (first
    | (clear T1
       refine wpList_box_page rfl _ rfl (n :: c) (by rfl) ?_
       intro w1 g1 hb1 hg1 ho1
       have HB1 := Lib.hid hb1
       have HG1 := Lib.hid hg1
       have HO1 := Lib.hid ho1
       clear hb1 hg1 ho1)
    | (clear T2
       refine wpList_new_page rfl rfl ?_
       intro w2 g2 hb2 hg2 ho2
       have HO2 := Lib.hid (HO1.out.trans ho2 (by simp))
       have HB1' := Lib.hid (HB1.out.kept ho2 (by simp))
       have hne : g1 ≠ g2 := by have := HB1.out.lt; omega
       have HG2 := Lib.hid (Nat.le_trans HO1.out.size hg2)
       have HB2 := Lib.hid hb2
       clear hb2 hg2 ho2 HB1 HO1))
  go_loopw [7, 10] (fun _ i wr => ∃ (k : Nat) (d : List Int), k ≤ l.length ∧ i = .int .i64 k ∧ d.length = 60 ∧ setR c l = setR d (l.drop k) ∧ PB wr g1 27 (n :: d) ∧ PB wr g2 27 (List.replicate 61 0) ∧ Only [] w wr) (fun _ i _ => l.length - (intOf i).toNat)
  case atStart => exact ⟨0, c, by omega, rfl, hc, rfl, HB1'.out, HB2.out, HO2.out⟩
  case round =>
    obtain ⟨k, d, hk, rfl, hd, hset, hb, hb', ho⟩ := hrel
    by_cases hlt : k < l.length
    · have hkl : l[k]? = some l[k] := List.getElem?_eq_getElem hlt
      obtain ⟨⟨hi0, hi1⟩, b, off, cap1, e1, hc1, hc2⟩ := (HV.out.quiet ho).at_ hkl
      cases e1
      have hdrop : l.drop k = l[k] :: l.drop (k + 1) := List.drop_eq_getElem_cons hlt
      rw [hdrop] at hset
      obtain ⟨p, hp⟩ : ∃ p, p = l[k] := ⟨_, rfl⟩
      rw [← hp] at hi0 hi1 hc1 hc2 hset
      obtain ⟨x, y⟩ := p
      simp only at hi0 hi1 hc1 hc2 hset
      have HS := Lib.hid hset
      have HB := Lib.hid hb
      have HB' := Lib.hid hb'
      have HO := Lib.hid ho
      clear hset hb hb' ho hkl hdrop hp HB1' HB2 HO2
      go_wp2_with fail
      refine (isCell_any x _ hi0.1 hi0.2).mono ?_
      rintro e w3 ⟨rfl, rfl⟩
      have q0 := cell_at 0 (heap_new wr (.cells #[.int .i64 x, .int .i64 y] 46))
      have q1 := cell_at 1 (heap_new wr (.cells #[.int .i64 x, .int .i64 y] 46))
      have q2 : Only [] wr (wr.alloc (.cells #[.int .i64 x, .int .i64 y] 46)) := (Only.refl [] wr).alloc _
      obtain ⟨w4, hw4⟩ : ∃ w4, w4 = wr.alloc (.cells #[.int .i64 x, .int .i64 y] 46) := ⟨_, rfl⟩
      rw [← hw4] at q0 q1 q2 ⊢
      have q0' : w4.cell? ⟨wr.heap.size, 0, none⟩ = some (.int .i64 x) := q0
      have q1' : w4.cell? ⟨wr.heap.size, 1, none⟩ = some (.int .i64 y) := q1
      have HB4 := Lib.hid (HB.out.kept q2 (by simp))
      have HB4' := Lib.hid (HB'.out.kept q2 (by simp))
      have HO4 := Lib.hid (HO.out.trans q2 (by simp))
      clear q0 q1 q2 hw4 HB HB' HO hc1 hc2
      have HG1' : w.heap.size ≤ g1 := HG1.out
      by_cases hin : 0 ≤ x ∧ x < 60
      · have hdec : decide (0 ≤ x ∧ x < 60) = true := by simp [hin]
        rw [hdec]
        have hs2 : setR c l = setR (d.set x.toNat y) (l.drop (k + 1)) := by
          rw [HS.out, setR]
          simp only [if_pos hin]
        have HS2 := Lib.hid hs2
        obtain ⟨i, rfl⟩ : ∃ i : Nat, x = (i : Int) := ⟨x.toNat, by omega⟩
        have hi60 : i < 60 := by omega
        have hcx : ∃ v, w4.cell? ⟨g1, 1 + i, none⟩ = some v := ⟨_, HB4.out.cell (z := d[i]'(by omega)) (by rw [Nat.add_comm, List.getElem?_cons_succ, List.getElem?_eq_getElem])⟩
        obtain ⟨v2, hcx⟩ := hcx
        have hfx : w4.frozen? ⟨g1, 1 + i, none⟩ = false := HB4.out.free _
        have hb5 : PB (w4.setCell ⟨g1, 1 + i, none⟩ (.int .i64 y)) g1 27 (n :: d.set i y) := by
          have e : (n :: d).set (1 + i) y = n :: d.set i y := by rw [Nat.add_comm, List.set_cons_succ]
          rw [← e]
          exact HB4.out.set (1 + i) y
        have ho5 : Only [] w (w4.setCell ⟨g1, 1 + i, none⟩ (.int .i64 y)) := HO4.out.setCell (Or.inr HG1') _
        have hb6 : PB (w4.setCell ⟨g1, 1 + i, none⟩ (.int .i64 y)) g2 27 (List.replicate 61 0) := HB4'.out.kept ((Only.refl [g1] w4).setCell (.inl (by simp)) _) (by simp; omega)
        have HB5 := Lib.hid hb5
        have HB6 := Lib.hid hb6
        have HO5 := Lib.hid ho5
        clear hb5 hb6 ho5 hs2 hdec hin HS HB4 HB4' HO4
        go_wp2_with fail
        go_roundw
        case rel => exact ⟨k + 1, d.set i y, by omega, by go_num, by simpa using hd, HS2.out, HB5.out, HB6.out, HO5.out⟩
        case measure => simp [intOf]; omega
      · have hdec : decide (0 ≤ x ∧ x < 60) = false := by simp only [decide_eq_false_iff_not]; exact hin
        rw [hdec]
        have hs2 : setR c l = none := by
          rw [HS.out, setR]
          simp only [if_neg hin]
        have HS2 := Lib.hid hs2
        clear hs2 hdec hin HS
        go_wp2_with (first
          | (refine wpList_built rfl [] rfl (0 :: blankP) built_none ?_)
          | (refine wpList_store_page rfl _ _ rfl g2 (0 :: blankP) (by rfl) (by rfl) (by rfl) _ HB4'.out (by rfl) ?_
             intro w5 hb5 ho5
             have HB5 := Lib.hid hb5
             have HO5 := Lib.hid (HO4.out.trans ho5 (by simp; exact HG2.out))
             clear hb5 ho5))
        refine bodyPost_ret (results_page2 rfl _ _ g2 _ _ (by rfl) (by rfl) HB5.out (by rfl)) rfl ⟨HO5.out, ?_, fun _ => rfl⟩
        intro d' h'
        rw [HS2.out] at h'
        simp at h'
    · obtain rfl : k = l.length := by omega
      rw [List.drop_length] at hset
      have HS := Lib.hid hset
      have HO := Lib.hid ho
      clear hset ho HO2
      go_wp2_with (first
        | (refine wpList_load_page rfl _ rfl g1 (by rfl) _ hb (by simp [hd]) ?_)
        | (refine wpList_store_page rfl _ _ rfl g2 (n :: d) (by rfl) (by rfl) (by simp [hd]) _ hb' (by rfl) ?_
           intro w5 hb5 ho5
           have HB5 := Lib.hid hb5
           have HO5 := Lib.hid (HO.out.trans ho5 (by simp; exact HG2.out))
           clear hb5 ho5))
      refine bodyPost_ret (results_page2 rfl _ _ g2 _ _ (by rfl) (by rfl) HB5.out (by simp [hd])) rfl ⟨HO5.out, ?_, ?_⟩
      · intro d' h'
        rw [HS.out, setR] at h'
        cases h'
        rfl
      · intro h'
        rw [HS.out, setR] at h'
        simp at h'

end Go.Proofs.Ythacfanfhdjmbaa
