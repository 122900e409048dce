/- What Tokens answers, at all texts. -/
import Derived.Test.YtiaeagpepfmfgaaC6
namespace Go.Proofs.Ytiaeagpepfmfgaa
open Go.RowKit Go.Maps
set_option linter.unusedSimpArgs false
set_option linter.unusedVariables false

theorem lex_begin (L : Sec) : lex L = (lexG (gapN false L) (L.drop (gapN false L))).map (([] : List Tok) ++ ·) := by
  rw [lex_eq, ← lexG_gap 0 L, Nat.zero_add]
  generalize lexG (gapN false L) (L.drop (gapN false L)) = x
  cases x <;> rfl

end Go.Proofs.Ytiaeagpepfmfgaa
