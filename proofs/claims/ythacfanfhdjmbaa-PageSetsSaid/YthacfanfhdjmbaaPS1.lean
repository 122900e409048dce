/- page: facts on Diff and Set, both ways. -/
import Derived.Test.YthacfanfhdjmbaaPA
namespace Go.Proofs.Ythacfanfhdjmbaa
open Go.RowKit Go.Maps
set_option linter.unusedSimpArgs false
set_option linter.unusedVariables false

theorem setR_append : ∀ (l m : List Img) (c : List Int), setR c (l ++ m) = (setR c l).bind fun d => setR d m
  | [], m, c => rfl
  | p :: l, m, c => by
    simp only [List.cons_append, setR]
    split
    · exact setR_append l m _
    · rfl
theorem dif_pairwise (c d : List Int) : ∀ n, (dif c d n).Pairwise fun p q => p.1 < q.1
  | 0 => by simp [dif]
  | n + 1 => by
    rw [dif_succ, List.pairwise_append]
    refine ⟨dif_pairwise c d n, ?_, ?_⟩
    · split <;> simp
    · intro p hp q hq
      obtain ⟨i, hi, h1, _⟩ := dif_mem hp
      split at hq
      · simp at hq
      · simp at hq
        rw [h1, hq]
        simp only
        omega
theorem dif_next {c d : List Int} {n j : Nat} {p q : Img} (hp : (dif c d n)[j]? = some p) (hq : (dif c d n)[j + 1]? = some q) : p.1 < q.1 := by
  have h := List.pairwise_iff_getElem.1 (dif_pairwise c d n)
  obtain ⟨h1, e1⟩ := List.getElem?_eq_some_iff.1 hp
  obtain ⟨h2, e2⟩ := List.getElem?_eq_some_iff.1 hq
  have := h j (j + 1) h1 h2 (by omega)
  rw [e1, e2] at this
  exact this
theorem setR_dif (c d : List Int) (hc : c.length = 60) (hd : d.length = 60) : ∀ n, n ≤ 60 → setR d (dif c d n) = some (c.take n ++ d.drop n)
  | 0, _ => by simp [dif, setR]
  | n + 1, hn => by
    have ih := setR_dif c d hc hd n (by omega)
    have hcn : c[n]? = some (c.getD n 0) := by rw [List.getD_eq_getElem?_getD, List.getElem?_eq_getElem (by omega)]; rfl
    have hdn : d[n]? = some (d.getD n 0) := by rw [List.getD_eq_getElem?_getD, List.getElem?_eq_getElem (by omega)]; rfl
    have e1 : c.take (n + 1) = c.take n ++ [c.getD n 0] := by rw [List.take_add_one, hcn]; rfl
    have e2 : d.drop n = d.getD n 0 :: d.drop (n + 1) := by
      obtain ⟨h, e⟩ := List.getElem?_eq_some_iff.1 hdn
      rw [List.drop_eq_getElem_cons h, e]
    rw [dif_succ, setR_append, ih]
    simp only [Option.bind_some]
    rw [e1, e2]
    by_cases h : c.getD n 0 = d.getD n 0
    · rw [if_pos h, h]
      simp [setR]
    · rw [if_neg h]
      have h2 : 0 ≤ (n : Int) ∧ (n : Int) < 60 := by omega
      simp only [setR, if_pos h2, Int.toNat_natCast]
      have hl : (c.take n).length = n := by rw [List.length_take]; omega
      rw [List.set_append_right _ _ (by omega), hl, Nat.sub_self]
      simp
theorem setR_dif_all (c d : List Int) (hc : c.length = 60) (hd : d.length = 60) : setR d (dif c d 60) = some c := by
  rw [setR_dif c d hc hd 60 (by omega), List.take_of_length_le (by omega), List.drop_eq_nil_of_le (by omega), List.append_nil]

end Go.Proofs.Ythacfanfhdjmbaa
