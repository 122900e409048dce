/- A fault as numbers; the chapter's examples. -/
import Derived.Test.YtjcpmfdgcomfgaaC7
namespace Go.Proofs.Ytjcpmfdgcomfgaa
open Go.RowKit Go.Maps
set_option linter.unusedSimpArgs false
set_option linter.unusedVariables false

theorem Fault_nil (w : World) : Calls Try.prog 23 #[.nilIface] w fun e w' => e = .returned (.tuple #[.int .i64 0, .int .i64 0]) ∧ w = w' := by
  go_enter Try.func23, Try.ntmps23
  go_wp2
  go_ret2
  exact ⟨rfl, rfl⟩
theorem assert_fault (g : Nat) (w : World) : (Instr.typeAssert (.iface 85 (.pointer (some ⟨g, 0, none⟩))) 53 85 true).run Try.prog w = .ok (.tuple #[.pointer (some ⟨g, 0, none⟩), .bool true]) w := by kernel_rfl
theorem Fault_is (ev : Value) (c p : Nat) (w : World) (h : FaultIs w ev c p) : Calls Try.prog 23 #[ev] w fun e w' => e = .returned (.tuple #[.int .i64 c, .int .i64 p]) ∧ Only [] w w' := by
  obtain ⟨g, rfl, h1, h2⟩ := h
  have q := assert_fault g w
  go_enter Try.func23, Try.ntmps23
  go_wp2
  go_quiet (fail)
  go_wp2
  go_ret2
  exact ⟨rfl, by refine ⟨rfl, rfl, rfl, Nat.le_refl _, fun _ _ _ => rfl⟩⟩

def exL : Sec := [120, 43, 61, 49, 48, 59]
def exT : List Tok := [⟨1, [120], 0⟩, ⟨3, [43, 61], 1⟩, ⟨2, [49, 48], 3⟩, ⟨3, [59], 5⟩, ⟨4, [], 6⟩]
theorem ex_ok : lex [120, 43, 61, 49, 48, 59] = .ok exT := by kernel_rfl
theorem ex_bad : lex [97, 32, 38, 32, 98] = .error 2 := by kernel_rfl
theorem TokRes.ok {l : Sec} {base : Nat} {v ev : Value} {w' : World} {ts : List Tok} (h : TokRes l base v ev w') (hl : l.length ≤ 480) (ht : lex l = .ok ts) : ev = .nilIface ∧ OTk w' base v ts := by
  rcases h with ⟨h, _⟩ | ⟨_, p, h, _⟩ | ⟨_, us, h, he, ho⟩
  · omega
  · rw [ht] at h
    cases h
  · rw [ht] at h
    cases h
    exact ⟨he, ho⟩
theorem TokRes.bad {l : Sec} {base : Nat} {v ev : Value} {w' : World} {p : Nat} (h : TokRes l base v ev w') (hl : l.length ≤ 480) (ht : lex l = .error p) : v = .slice none 0 0 ∧ FaultIs w' ev 7 p := by
  rcases h with ⟨h, _⟩ | ⟨_, q, h, hv, hf⟩ | ⟨_, us, h, _⟩
  · omega
  · rw [ht] at h
    cases h
    exact ⟨hv, hf⟩
  · rw [ht] at h
    cases h
end Go.Proofs.Ytjcpmfdgcomfgaa
