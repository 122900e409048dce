import Derived.Test.YtheanmadognhbaaGreatDoorWar
import Derived.Test.YtheanmadognhbaaGreatDoorBar
import Derived.Deep.Slices
import Derived.Carry
import Derived.Lib.SmallJoins
namespace Go.Proofs.YtheanmadognhbaaGreatDoor
open Go.ChangeShapes Go.WideShapes Go.ChangeAt Go.RowKit Go.Deep
set_option linter.unusedVariables false
section
variable {H:Type} {enc:TypeId×Value→H} {W:World} {base:Nat} {sp:Nat→Bool} {held:Bool}
theorem addr_add (a:Addr) (i:Nat) (h:a.spot=none):a.add i=⟨a.block,a.off+i,none⟩:=by
 unfold Addr.add
 obtain ⟨b,o,s⟩:=a
 simp only at h
 subst h
 split<;>simp_all
theorem spot_none {a:Addr} {v:Value} (h:W.cell? a=some v):a.spot=none:=by
 unfold World.cell? at h
 split at h
 ·split at h
  ·cases h
  ·rename_i hs;simpa using hs
 ·cases h
theorem cells_int:Tryz.prog.cellsOf 3=1:=by kernel_rfl
theorem open_num {fuel:Nat} {u:Value} {x:DataW H×List MemPlace} (h:DataW.trod enc Tryz.prog W base sp held fuel 3 [u]=some x):∃ q:Int,u=.int .i64 q∧(Lit.int .i64 q).wf=true:=by
 obtain ⟨q,hq,_,hw⟩:=DataW.trod_int Tryz.underlying3 h
 exact ⟨q,by simpa using hq,hw⟩
end
end Go.Proofs.YtheanmadognhbaaGreatDoor
