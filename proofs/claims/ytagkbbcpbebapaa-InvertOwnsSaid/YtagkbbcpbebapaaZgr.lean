import Derived.Test.YtagkbbcpbebapaaWar
import Derived.Test.YtagkbbcpbebapaaBar
import Derived.Deep.Slices
import Derived.Carry
import Derived.Lib.SmallJoins
namespace Go.Proofs.Ytagkbbcpbebapaa
open Go.ChangeShapes Go.WideShapes Go.ChangeAt Go.RowKit Go.Deep
set_option linter.unusedVariables false
section
variable {H:Type} {enc:TypeId×Value→H} {W:World} {base:Nat} {sp:Nat→Bool} {held:Bool}
theorem addr_add (a:Addr) (i:Nat) (h:a.spot=none):a.add i=⟨a.block,a.off+i,none⟩:=by
 unfold Addr.add
 obtain ⟨b,o,s⟩:=a
 simp only at h
 subst h
 split<;>simp_all
theorem spot_none {a:Addr} {v:Value} (h:W.cell? a=some v):a.spot=none:=by
 unfold World.cell? at h
 split at h
 ·split at h
  ·cases h
  ·rename_i hs;simpa using hs
 ·cases h
theorem cells_one {a:Addr} {cs':List Value} (h:W.cells? base a 1=some cs'):∃ u,cs'=[u]∧W.cell? a=some u:=by
 obtain ⟨_,hl,hat⟩:=World.cells?_some h
 match cs',hl with
 | [u],_=>
  have:=hat 0 (by omega)
  have ha0:a.add 0=a:=by simp [Addr.add]
  rw [ha0] at this
  exact ⟨u,rfl,by simpa using this⟩
theorem cells_int:Try.prog.cellsOf 3=1:=by kernel_rfl
theorem open_num {fuel:Nat} {u:Value} {x:DataW H×List MemPlace} (h:DataW.trod enc Try.prog W base sp held fuel 3 [u]=some x):∃ q:Int,u=.int .i64 q∧(Lit.int .i64 q).wf=true:=by
 obtain ⟨q,hq,_,hw⟩:=DataW.trod_int Try.underlying3 h
 exact ⟨q,by simpa using hq,hw⟩
theorem open_row {t e:TypeId} (ht:Try.prog.underlying t=some (.slice e)) (he:Try.prog.cellsOf e=1) {fuel:Nat} {v:Value} {x:DataW H×List MemPlace} (h:DataW.trod enc Try.prog W base sp held fuel t [v]=some x) :
  ∃ (a:Option Addr) (len cap:Nat),v=.slice a len cap∧(len≤cap∧cap≤maxLen)∧∀ i,i < len→∃ (b off:Nat) (u:Value) (n:Nat) (y:DataW H×List MemPlace),a=some ⟨b,off,none⟩∧W.cell? ⟨b,off+i,none⟩=some u∧DataW.trod enc Try.prog W base sp held n e [u]=some y:=by
 rcases open_slice ht h with ⟨hcs,_⟩ | ⟨a,len,cap,m,n,D,Pl,hcs,_,hl,hm,hmm,_,hi⟩
 ·exact ⟨none,0,0,by simpa using hcs,⟨Nat.zero_le _,Nat.zero_le _⟩,fun i hi=>absurd hi (Nat.not_lt_zero _)⟩
 ·obtain rfl:v=.slice (some a) len cap:=by simpa using hcs
  have hlm:len≤m:=by rw [hmm];split<;>omega
  refine ⟨some a,len,cap,rfl,⟨hl,hm⟩,fun i hil=>?_⟩
  clear hm
  obtain ⟨cs0,hc0,_⟩:=hi 0 (by omega)
  rw [he] at hc0
  obtain ⟨u0,_,hcell0⟩:=cells_one hc0
  have hs:a.spot=none:=by
   have e0:a.add (0*1)=a:=by simp [Addr.add]
   rw [e0] at hcell0
   exact spot_none hcell0
  obtain ⟨cs1,hc1,ht1⟩:=hi i (by omega)
  rw [he] at hc1
  obtain ⟨u,rfl,hcell⟩:=cells_one hc1
  rw [addr_add a _ hs,Nat.mul_one] at hcell
  refine ⟨a.block,a.off,u,n,_,?_,hcell,ht1⟩
  obtain ⟨b,o,s⟩:=a
  simp only at hs
  rw [hs]
theorem open_nums {fuel:Nat} {v:Value} {x:DataW H×List MemPlace} (h:DataW.trod enc Try.prog W base sp held fuel 39 [v]=some x):∃ l:List Int,IntsV W v l∧Fit v∧l.length≤maxLen:=by
 obtain ⟨a,len,cap,rfl,hlen,hi⟩:=open_row Try.underlying39 cells_int h
 have hex:∀ i,∃ q:Int,i < len→(Lit.int .i64 q).wf=true∧∃ b off,a=some ⟨b,off,none⟩∧W.cell? ⟨b,off+i,none⟩=some (.int .i64 q):=fun i=>by
  by_cases hil:i < len
  ·obtain ⟨b,off,u,n,y,ha,hc,ht⟩:=hi i hil
   obtain ⟨q,rfl,hw⟩:=open_num ht
   exact ⟨q,fun _=>⟨hw,b,off,ha,hc⟩⟩
  ·exact ⟨0,fun h=>absurd h hil⟩
 refine ⟨(List.range len).map fun i=>(hex i).choose,⟨a,cap,by simp,fun i c hic=>?_⟩,(fun a' n' c' e=>by cases e;exact hlen),by simpa using Nat.le_trans hlen.1 hlen.2⟩
 have hil:i < len:=by simpa using (List.getElem?_eq_some_iff.1 hic).1
 rw [List.getElem?_map,List.getElem?_range hil,Option.map_some] at hic
 rw [← Option.some.inj hic]
 exact (hex i).choose_spec hil
end
end Go.Proofs.Ytagkbbcpbebapaa
namespace Go.Proofs.Ytagkbbcpbebapaa
open Go.RowKit Go.Maps
set_option linter.unusedSimpArgs false
set_option linter.unusedVariables false
theorem num_nil (w:World):Calls Try.prog 14 #[.nilIface] w fun e w'=>e=.returned (.int .i64 0)∧w=w':=by
 go_enter Try.func14,Try.ntmps14
 go_wp2
 go_ret
 exact ⟨rfl,rfl⟩
theorem assert_err (n:Int) (w:World):(Instr.typeAssert (err n) 31 42 true).run Try.prog w=.ok (.tuple #[.int .i64 n,.bool true]) w:=by kernel_rfl
set_option maxRecDepth 100000 in
theorem num_err (n:Int) (w:World) (hn:n≠0):Calls Try.prog 14 #[err n] w fun e w'=>e=.returned (.int .i64 n)∧w=w':=by
 have h0:(n == 0)=false:=by simpa using hn
 have q:=assert_err n w
 go_enter Try.func14,Try.ntmps14
 go_wp2
 go_ret
 exact ⟨rfl,rfl⟩
section
variable {w:World} {ops:Array Oper} {rest:List Oper} {o:Oper} {a:Act} {Q:Exit→Act→World→Prop}
end
def CopyB (w:World) (g:Nat) (l:Sec):Prop:=∃ cur:Array Value,w.heap[g]?=some (.cells cur 5 (0,0))∧cur.size=l.length+2∧cur.toList=(l.map fun c=>Value.int .u8 c.toNat)++[.int .u8 165,.int .u8 90]
theorem CopyB.bytes {w:World} {g:Nat} {l:Sec} (h:CopyB w g l):Bytes w (.slice (some ⟨g,0,none⟩) l.length (l.length+2)) l:=by
 obtain ⟨cur,hg,hs,hl⟩:=h
 refine ⟨_,_,rfl,fun i c hi=>⟨g,0,rfl,?_⟩⟩
 have hlt:=(List.getElem?_eq_some_iff.1 hi).1
 rw [Nat.zero_add,cell_at i hg,← Array.getElem?_toList,hl,List.getElem?_append_left (by simpa using hlt),List.getElem?_map,hi]
 rfl
theorem CopyB.kept {w w':World} {S:List Nat} {g:Nat} {l:Sec} (h:CopyB w g l) (ho:Only S w w') (hg:g∉S):CopyB w' g l:=by
 obtain ⟨cur,h1,r⟩:=h
 exact ⟨cur,ho.heap h1 hg,r⟩
theorem CopyB.row {w:World} {g:Nat} {l:Sec} (h:CopyB w g l) (hl:l.length+2≤maxLen):Row w (.slice (some ⟨g,0,none⟩) l.length (l.length+2)) l.length:=by
 have hb:=h.bytes
 obtain ⟨cur,hg,hs,hl'⟩:=h
 refine .inr ⟨g,_,cur,rfl,by omega,hl,hg,by omega,fun j hj=>⟨l[j].toNat,?_⟩⟩
 rw [← Array.getElem?_toList,hl',List.getElem?_append_left (by simpa using hj),List.getElem?_map,List.getElem?_eq_getElem hj]
 rfl
end Go.Proofs.Ytagkbbcpbebapaa
