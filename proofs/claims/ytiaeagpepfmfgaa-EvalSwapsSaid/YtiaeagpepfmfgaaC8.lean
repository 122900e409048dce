/- A fault as numbers; the chapter's examples. -/
import Derived.Test.YtiaeagpepfmfgaaC7
namespace Go.Proofs.Ytiaeagpepfmfgaa
open Go.RowKit Go.Maps
set_option linter.unusedSimpArgs false
set_option linter.unusedVariables false

theorem assert_fault (g : Nat) (w : World) : (Instr.typeAssert (.iface 106 (.pointer (some ⟨g, 0, none⟩))) 38 106 true).run Try.prog w = .ok (.tuple #[.pointer (some ⟨g, 0, none⟩), .bool true]) w := by kernel_rfl
def exL : Sec := [120, 43, 61, 49, 48, 59]
def exT : List Tok := [⟨1, [120], 0⟩, ⟨3, [43, 61], 1⟩, ⟨2, [49, 48], 3⟩, ⟨3, [59], 5⟩, ⟨4, [], 6⟩]
theorem ex_ok : lex [120, 43, 61, 49, 48, 59] = .ok exT := by kernel_rfl
theorem ex_bad : lex [97, 32, 38, 32, 98] = .error 2 := by kernel_rfl
theorem TokRes.ok {l : Sec} {base : Nat} {v ev : Value} {w' : World} {ts : List Tok} (h : TokRes l base v ev w') (hl : l.length ≤ 480) (ht : lex l = .ok ts) : ev = .nilIface ∧ OTk w' base v ts := by
  rcases h with ⟨h, _⟩ | ⟨_, p, h, _⟩ | ⟨_, us, h, he, ho⟩
  · omega
  · rw [ht] at h
    cases h
  · rw [ht] at h
    cases h
    exact ⟨he, ho⟩
theorem TokRes.bad {l : Sec} {base : Nat} {v ev : Value} {w' : World} {p : Nat} (h : TokRes l base v ev w') (hl : l.length ≤ 480) (ht : lex l = .error p) : v = .slice none 0 0 ∧ FaultIs w' ev 7 p := by
  rcases h with ⟨h, _⟩ | ⟨_, q, h, hv, hf⟩ | ⟨_, us, h, _⟩
  · omega
  · rw [ht] at h
    cases h
    exact ⟨hv, hf⟩
  · rw [ht] at h
    cases h
end Go.Proofs.Ytiaeagpepfmfgaa
