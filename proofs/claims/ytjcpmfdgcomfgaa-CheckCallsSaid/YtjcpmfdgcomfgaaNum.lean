/- Num, Copy, Kept: errors as numbers, copies with marks. -/
import Derived.Test.YtjcpmfdgcomfgaaB2
namespace Go.Proofs.Ytjcpmfdgcomfgaa
open Go.RowKit Go.Maps
set_option linter.unusedSimpArgs false
set_option linter.unusedVariables false

theorem assert_err (n : Int) (w : World) : (Instr.typeAssert (err n) 53 59 true).run Try.prog w = .ok (.tuple #[.int .i64 n, .bool true]) w := by kernel_rfl
section
variable {w : World} {ops : Array Oper} {rest : List Oper} {o : Oper} {a : Act} {Q : Exit → Act → World → Prop}
/-- 'append' of any bytes behind own ones that have the room. -/
theorem wpList_append_bytes (hg : o.guard = none) (s x : Operand) (hop : o.op = Op.call { callee := Callee.builtin Builtin.append, args := #[s, x], argTypes := #[83, 83] })
    (base g k cap : Nat) (xs : List Value) (hs : a.eval s = .slice (some ⟨g, 0, none⟩) k cap) (hown : w.ownsRow base 5 1 (.slice (some ⟨g, 0, none⟩) k cap) k xs) (v : Value) (l : Sec) (hx : a.eval x = v) (hv : Bytes w v l) (b1 : k + l.length ≤ cap)
    (hK : ∀ w', w'.ownsRow base 5 1 (.slice (some ⟨g, 0, none⟩) (k + l.length) cap) (k + l.length) (xs ++ l.map fun c => Value.int .u8 c.toNat) → Only [g] w w' → wpList Try.prog ops Q rest (a.put o.dst (.slice (some ⟨g, 0, none⟩) (k + l.length) cap)) w') :
    wpList Try.prog ops Q (o :: rest) a w := by
  obtain ⟨i, hi, hz⟩ := Option.map_eq_some_iff.1 info_u8'
  simp only [Prod.mk.injEq] at hz
  obtain ⟨z1, z2, z3⟩ := hz
  have hv' := hv
  obtain ⟨ao, capv, rfl, hc⟩ := hv'
  by_cases h0 : l.length = 0
  · obtain rfl : l = [] := List.eq_nil_of_length_eq_zero h0
    refine wpList_plain hg fun K' hK' => ?_
    have hrun := run_append_empty (P := Try.prog) base 83 o.type 5 i 1 Try.underlying83 hi _ k xs hown ao capv
    unfold Oper.wp
    simp [execOp, hop, resolve, invoke, builtin, hs, hx, hrun, Result.andThen]
    exact hK' _ _ (by simpa using hK w (by simpa using hown) (Only.refl _ _))
  · obtain ⟨b, off, rfl, _⟩ := hc 0 l[0] (List.getElem?_eq_getElem (by omega))
    exact wpList_append_fits w hg s x 83 hop base 5 i 1 Try.underlying83 hi z2 g k cap xs hs hown ⟨b, off, none⟩ l.length capv (l.map fun c => Value.int .u8 c.toNat) hx (by simp) ((bytes_news hv).2 _ rfl) (by simp [Value.oneCell']) b1 (fun w' h1 h2 => hK w' h1 (Only.of_grown h2))
end

/-- A copy: l with two marks behind it. -/
def CopyB (w : World) (g : Nat) (l : Sec) : Prop := ∃ cur : Array Value, w.heap[g]? = some (.cells cur 5 (0, 0)) ∧ cur.size = l.length + 2 ∧ cur.toList = (l.map fun c => Value.int .u8 c.toNat) ++ [.int .u8 165, .int .u8 90]
theorem CopyB.bytes {w : World} {g : Nat} {l : Sec} (h : CopyB w g l) : Bytes w (.slice (some ⟨g, 0, none⟩) l.length (l.length + 2)) l := by
  obtain ⟨cur, hg, hs, hl⟩ := h
  refine ⟨_, _, rfl, fun i c hi => ⟨g, 0, rfl, ?_⟩⟩
  have hlt := (List.getElem?_eq_some_iff.1 hi).1
  rw [Nat.zero_add, cell_at i hg, ← Array.getElem?_toList, hl, List.getElem?_append_left (by simpa using hlt), List.getElem?_map, hi]
  rfl
theorem CopyB.kept {w w' : World} {S : List Nat} {g : Nat} {l : Sec} (h : CopyB w g l) (ho : Only S w w') (hg : g ∉ S) : CopyB w' g l := by
  obtain ⟨cur, h1, r⟩ := h
  exact ⟨cur, ho.heap h1 hg, r⟩
theorem CopyB.mark {w : World} {g : Nat} {l : Sec} (h : CopyB w g l) : w.cell? ⟨g, l.length, none⟩ = some (.int .u8 165) ∧ w.cell? ⟨g, l.length + 1, none⟩ = some (.int .u8 90) := by
  obtain ⟨cur, hg, hs, hl⟩ := h
  constructor
  · rw [cell_at _ hg, ← Array.getElem?_toList, hl, List.getElem?_append_right (by simp)]
    simp
  · rw [cell_at _ hg, ← Array.getElem?_toList, hl, List.getElem?_append_right (by simp)]
    simp
theorem CopyB.row {w : World} {g : Nat} {l : Sec} (h : CopyB w g l) (hl : l.length + 2 ≤ maxLen) : Row w (.slice (some ⟨g, 0, none⟩) l.length (l.length + 2)) l.length := by
  have hb := h.bytes
  obtain ⟨cur, hg, hs, hl'⟩ := h
  refine .inr ⟨g, _, cur, rfl, by omega, hl, hg, by omega, fun j hj => ⟨l[j].toNat, ?_⟩⟩
  rw [← Array.getElem?_toList, hl', List.getElem?_append_left (by simpa using hj), List.getElem?_map, List.getElem?_eq_getElem hj]
  rfl

end Go.Proofs.Ytjcpmfdgcomfgaa
