/- page: Apart of two rows; strings. -/
import Derived.Test.YthacfanfhdjmbaaPA
import Derived.Test.YthacfanfhdjmbaaAp3
namespace Go.Proofs.Ythacfanfhdjmbaa
open Go.RowKit Go.Maps
set_option linter.unusedSimpArgs false
set_option linter.unusedVariables false

theorem apart_two {w : World} {g h na nb : Nat} (ha : Row w (.slice (some ⟨g, 0, none⟩) na na) na) (hb : Row w (.slice (some ⟨h, 0, none⟩) nb nb) nb) (hne : g ≠ h) (h1 : na ≤ 1099511627776) (h2 : nb ≤ 1099511627776)
    {v : Value} (hv : v = .slice (some ⟨w.heap.size, 0, none⟩) 2 2) :
    Calls Try.prog 17 #[v] (w.alloc (.cells #[.slice (some ⟨g, 0, none⟩) na na, .slice (some ⟨h, 0, none⟩) nb nb] 23)) fun e w' => e = .returned (.bool true) ∧ Only [g, h] w w' := by
  subst hv
  have q : Only [] w (w.alloc (.cells #[.slice (some ⟨g, 0, none⟩) na na, .slice (some ⟨h, 0, none⟩) nb nb] 23)) := (Only.refl [] w).alloc _
  have hal : Alone [.slice (some ⟨g, 0, none⟩) na na, .slice (some ⟨h, 0, none⟩) nb nb] := by
    intro i j r s k hi hj hr hs
    rcases i with _ | _ | i <;> rcases j with _ | _ | j <;> first | rfl | (simp at hi hj; done) | (simp at hi hj; subst hi; subst hj; simp only [Value.ownBlock, Option.some.injEq] at hr hs; omega)
  refine (apart_any w.heap.size 2 _ [.slice (some ⟨g, 0, none⟩) na na, .slice (some ⟨h, 0, none⟩) nb nb] (fun i => [na, nb].getD i 0) _ (heap_new w _) ?_ ?_ hal (by simp) ?_).mono ?_
  · intro i r hi
    rcases i with _ | _ | i <;> simp at hi <;> subst hi <;> rfl
  · intro i r hi
    rcases i with _ | _ | i <;> simp at hi <;> subst hi
    · exact ha.kept q (by simp)
    · exact hb.kept q (by simp)
  · intro i
    rcases i with _ | _ | i <;> simp <;> assumption
  · rintro e w' ⟨rfl, ho⟩
    refine ⟨rfl, (q.mono (T := [g, h]) (by simp)).trans ho (fun k hk => .inl ?_)⟩
    obtain ⟨i, r, hi, hg⟩ := mem_owns.1 hk
    rcases i with _ | _ | i <;> simp at hi <;> subst hi <;> simp only [Value.ownBlock, Option.some.injEq] at hg <;> simp [hg]

theorem make_512p (w : World) : (Instr.makeSlice 23 (.int .i64 512) (.int .i64 512)).run Try.prog w = .ok (.slice (some ⟨w.heap.size, 0, none⟩) 512 512) (w.alloc (.cells (enc zeros) 5)) := by kernel_rfl
theorem exec_eqlr (r : Bool) (w : World) (o : Oper) (ρ : Operand → Value) (x y : Operand) (ho : o.op = .binOp .eql 27 x y 27) (n m : Int) (c d : List Int) (hx : ρ x = .agg (ivA (n :: c))) (hy : ρ y = .agg (ivA (m :: d))) (hc : c.length = 60) (hd : d.length = 60) (hr : r = true ↔ n = m ∧ c = d) :
    (execOp ρ o).run Try.prog w = .ok (.value (.bool r)) w := by
  have e : (decide (n = m) && decide (c = d)) = r := by
    rw [Bool.eq_iff_iff, hr]
    simp
  simp only [execOp, ho, hx, hy, Sem.run_bind, run_eqGuard_agg w .eql 27 x y _ _ guard_page, Result.andThen_ok, eql_page n m c d hc hd, Sem.run_pure, e]
theorem exec_neqr (r : Bool) (w : World) (o : Oper) (ρ : Operand → Value) (x y : Operand) (ho : o.op = .binOp .neq 27 x y 27) (n m : Int) (c d : List Int) (hx : ρ x = .agg (ivA (n :: c))) (hy : ρ y = .agg (ivA (m :: d))) (hc : c.length = 60) (hd : d.length = 60) (hr : r = false ↔ n = m ∧ c = d) :
    (execOp ρ o).run Try.prog w = .ok (.value (.bool r)) w := by
  simp only [execOp, ho, hx, hy, Sem.run_bind, run_eqGuard_agg w .neq 27 x y _ _ guard_page, Result.andThen_ok, neq_page n m c d hc hd, Sem.run_pure, not_same hr]
theorem exec_blank (w : World) (o : Oper) (ρ : Operand → Value) (ho : o.op = .build 27 #[]) : (execOp ρ o).run Try.prog w = .ok (.value (.agg (ivA (0 :: blankP)))) w := by
  have h := run_build (P := Try.prog) w 27 #[] _ built_none
  simp [execOp, ho, h, Result.andThen]

end Go.Proofs.Ythacfanfhdjmbaa
