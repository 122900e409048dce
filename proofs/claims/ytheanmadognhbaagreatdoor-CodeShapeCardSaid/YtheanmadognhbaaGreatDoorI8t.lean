import Derived.Test.YtheanmadognhbaaGreatDoorIat
namespace Go.Proofs.YtheanmadognhbaaGreatDoor
set_option linter.unusedVariables false
set_option linter.unusedSimpArgs false
open Go.RowKit Go.Maps
def okT (d:Df):Bool:=(mn d).2.1 == 0 && (mn d).1.turns
theorem xl (w:World) (B:Nat→Prop):DV w B ⟨[],[],[],[],[]⟩ [.string ⟨#[]⟩,.slice none 0 0,.slice none 0 0,.slice none 0 0,.slice none 0 0]:=
 ⟨_,_,_,_,rfl,NmV.nil _ _,EsV.nil _ _,SsV.nil _ _,EsV.nil _ _⟩
end Go.Proofs.YtheanmadognhbaaGreatDoor
