/- Numbers of one's own; wire: Takes. -/
import Derived.Test.YthacfanfhdjmbaaN3
namespace Go.Proofs.Ythacfanfhdjmbaa
open Go.RowKit Go.Maps
set_option linter.unusedSimpArgs false
set_option linter.unusedVariables false

def OwnI (w : World) (base : Nat) (v : Value) (ns : List Int) : Prop := w.ownsRow base 3 1 v ns.length (iv ns) ∧ ∀ x ∈ ns, (Lit.int .i64 x).wf = true
theorem OwnI.ints {w : World} {base : Nat} {v : Value} {ns : List Int} (h : OwnI w base v ns) : IntsV w v ns := owns_ints h.1 h.2
theorem OwnI.quiet {w w' : World} {base : Nat} {v : Value} {ns : List Int} (h : OwnI w base v ns) (ho : Only [] w w') : OwnI w' base v ns := ⟨owns_kept h.1 ho (by simp), h.2⟩
theorem OwnI.nil (w : World) (base : Nat) : OwnI w base (.slice none 0 0) [] := ⟨World.ownsRow_nil _ _ _ _, by simp⟩
theorem OwnI.shape {w : World} {base : Nat} {v : Value} {ns : List Int} (h : OwnI w base v ns) : ∃ a cap, v = .slice a ns.length cap := by
  rcases h.1.2 with ⟨rfl, e⟩ | ⟨g, cap, cur, rfl, _⟩
  · exact ⟨none, 0, by rw [e]⟩
  · exact ⟨_, _, rfl⟩
theorem cut_only {w0 w w' : World} {base : Nat} {v : Value} {ns : List Int} (h : OwnI w base v ns) (h0 : Only [] w0 w) (hb : w0.heap.size ≤ base) (ho : Only v.ownBlock.toList w w') : Only [] w0 w' :=
  h0.trans ho (fun g hg => .inr (by have := (World.ownsRow.lt h.1 g (by simpa using hg)).1; omega))

def TakesPost (w : World) (c : Nat) (l : Sec) (e : Ending) (w' : World) : Prop :=
  (takesN c l = none → e = .returned (.tuple #[.slice none 0 0, .slice none 0 0, err 4])) ∧
  (∀ ns rest, takesN c l = some (ns, rest) → ∃ a1 c1 a2 c2, e = .returned (.tuple #[.slice a1 ns.length c1, .slice a2 rest.length c2, .nilIface]) ∧ OwnI w' w.heap.size (.slice a1 ns.length c1) ns ∧ Own w' w.heap.size (.slice a2 rest.length c2) rest) ∧
  Only [] w w'

theorem takesN_zero (l : Sec) : takesN 0 l = some ([], l) := rfl
theorem takesN_none {c : Nat} {l : Sec} (h : takeN l = none) : takesN (c + 1) l = none := by rw [takesN, h]
theorem takesN_some {c : Nat} {l : Sec} {n : Int} {k : Nat} (h : takeN l = some (n, k)) : takesN (c + 1) l = (takesN c (l.drop k)).map fun p => (n :: p.1, p.2) := by rw [takesN, h]
/-- So many numbers have been taken. -/
def Took (c : Nat) (l : Sec) (k : Nat) (ns : List Int) (rest : Sec) : Prop := takesN c l = (takesN (c - k) rest).map fun p => (ns ++ p.1, p.2)
theorem Took.start (c : Nat) (l : Sec) : Took c l 0 [] l := by
  unfold Took
  cases takesN c l <;> simp [*]
theorem Took.next {c k : Nat} {l rest : Sec} {ns : List Int} (h : Took c l k ns rest) (hk : k < c) {n : Int} {j : Nat} (hn : takeN rest = some (n, j)) : Took c l (k + 1) (ns ++ [n]) (rest.drop j) := by
  unfold Took at h ⊢
  rw [h, show c - k = (c - (k + 1)) + 1 by omega, takesN_some hn]
  cases takesN (c - (k + 1)) (rest.drop j) <;> simp
theorem Took.none {c k : Nat} {l rest : Sec} {ns : List Int} (h : Took c l k ns rest) (hk : k < c) (hn : takeN rest = none) : takesN c l = none := by
  unfold Took at h
  rw [h, show c - k = (c - (k + 1)) + 1 by omega, takesN_none hn]
  rfl
theorem Took.done {c : Nat} {l rest : Sec} {ns : List Int} (h : Took c l c ns rest) : takesN c l = some (ns, rest) := by
  unfold Took at h
  rw [h, Nat.sub_self, takesN_zero]
  simp
theorem Only.refill {w w' : World} (h : Only [] w w') : Only [] w w' := ⟨h.os, h.tape, h.output, h.size, h.block⟩

end Go.Proofs.Ythacfanfhdjmbaa
