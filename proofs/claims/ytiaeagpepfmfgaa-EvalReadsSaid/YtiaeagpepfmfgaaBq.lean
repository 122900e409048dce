import Derived.Test.YtiaeagpepfmfgaaChecked
import Derived.Test.YtiaeagpepfmfgaaWq
import Derived.ArgAppend
import Derived.Deep.AppendLies
import Derived.Deep.OwnRows
import Derived.OwnWalk
import Derived.IntWalk
import Derived.Laws.IdiomStrings
namespace Go.Proofs.Ytiaeagpepfmfgaa
open Go.RowKit Go.Maps
set_option linter.unusedSimpArgs false
set_option linter.unusedVariables false
theorem cell_kept {S:List Nat} {w w':World} (ho:Only S w w') {ad:Addr} {v:Value} (hc:w.cell? ad=some v) (hn:ad.block∉S):w'.cell? ad=some v:=by
 have hlt:=World.block_lt_of_cell? _ _ hc
 rw [World.cell?_of_block (ho.block _ hlt hn)]
 exact hc
theorem heap_new_cell (w:World) (v:Value) (t:TypeId):(w.alloc (.cells #[v] t)).cell? ⟨w.heap.size,0,none⟩=some v:=by rw [cell_at 0 (heap_new w _)];rfl
theorem ret_bool {a b:Bool} (h:a=b):Ending.returned (.bool a)=.returned (.bool b):=by rw [h]
def IntsV (w:World) (v:Value) (ks:List Int):Prop:=
 ∃ (a:Option Addr) (cap:Nat),v=.slice a ks.length cap∧∀ i k,ks[i]?=some k→(Lit.int .i64 k).wf=true∧∃ b off,a=some ⟨b,off,none⟩∧w.cell? ⟨b,off+i,none⟩=some (.int .i64 k)
def Off (v:Value) (S:List Nat):Prop:=∀ a n c,v=.slice (some a) n c→0 < n→a.block∉S
theorem IntsV.kept {S:List Nat} {w w':World} {v:Value} {ks:List Int} (h:IntsV w v ks) (ho:Only S w w') (hs:Off v S):IntsV w' v ks:=by
 obtain ⟨a,cap,hv,hc⟩:=h
 refine ⟨a,cap,hv,fun i c hi=>?_⟩
 obtain ⟨hw,b,off,ha,hcell⟩:=hc i c hi
 exact ⟨hw,b,off,ha,cell_kept ho hcell (hs ⟨b,off,none⟩ _ _ (by rw [hv,ha]) (Nat.lt_of_le_of_lt (Nat.zero_le _) (List.getElem?_eq_some_iff.1 hi).1))⟩
theorem IntsV.at_ {w:World} {v:Value} {ks:List Int} (h:IntsV w v ks) {i:Nat} {k:Int} (hi:ks[i]?=some k) :
  (Lit.int .i64 k).wf=true∧∃ b off cap,v=.slice (some ⟨b,off,none⟩) ks.length cap∧w.cell? ⟨b,off+i,none⟩=some (.int .i64 k):=by
 obtain ⟨a,cap,hv,hc⟩:=h
 obtain ⟨hw,b,off,ha,hcell⟩:=hc i k hi
 exact ⟨hw,b,off,cap,by rw [hv,ha],hcell⟩
section
variable {P:Program} {md:Region.Mode} {l:List Oper} {Q:Exit→Act→World→Prop} {S:World→Prop}
theorem ready_two {fuel:Nat} {listed:Array Bool} {a:Act} {w:World} {i j:Nat} {o p:Oper} (ho:l[i]?=some o) (hp:l[j]?=some p)
  (h:∀ K':Act→World→Prop,Shut (∀ a w,S w→(S w→wpAnyH P md l.toArray Q S fuel (listed.setIfInBounds i true) a w)→K' a w)→if Region.wanted o (yielded l.toArray a.tmps)=true then Oper.wp P o a w K' Q else K' (a.put o.dst undef) w)
  (h2:∀ K':Act→World→Prop,Shut (∀ a w,S w→(S w→wpAnyH P md l.toArray Q S fuel (listed.setIfInBounds j true) a w)→K' a w)→if Region.wanted p (yielded l.toArray a.tmps)=true then Oper.wp P p a w K' Q else K' (a.put p.dst undef) w) :
  AllReadyH P md l.toArray Q S fuel listed a w [i,j]:=AllReadyH.cons (by simpa using ho) h (AllReadyH.cons (by simpa using hp) h2 AllReadyH.nil)
end
abbrev err (n:Int):Value:=.iface 50 (.int .i64 n)
section
variable {w:World} {ops:Array Oper} {rest:List Oper} {o:Oper} {a:Act} {Q:Exit→Act→World→Prop}
end
theorem run_append_empty {P:Program} {w:World} (base:Nat) (t ty e:TypeId) (i:TypeInfo) (size:Nat) (ht:P.underlying t=some (.slice e)) (hi:P.info? e=some i)
  (v:Value) (n:Nat) (xs:List Value) (hown:w.ownsRow base e size v n xs) (ao:Option Addr) (c:Nat) :
  (Builtin.append_ #[t,t] ty #[v,.slice ao 0 c]).run P w=.ok v w:=by
 rcases hown.2 with ⟨rfl,rfl⟩ | ⟨g,cap,cur,rfl,_,_,hnc,_⟩
 ·cases ao<;>simp [Builtin.append_,run_underlying ht,sizeOf,typeInfo,hi,Builtin.lenOf,Builtin.firstCells,loadCells,loadCellsFrom]
 ·cases ao<;>simp [Builtin.append_,run_underlying ht,sizeOf,typeInfo,hi,Builtin.lenOf,Builtin.firstCells,hnc,storeCells,loadCells,loadCellsFrom]
def strOf (l:Sec):ByteArray:=⟨l.toArray⟩
end Go.Proofs.Ytiaeagpepfmfgaa
