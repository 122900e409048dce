import Derived.WalkKit
import Derived.Maps.RangeWalk
import Derived.Handy
import Derived.Lib.Hide
import Derived.Laws.CopyOwn
import Derived.BigQuiet
import Derived.StillTailTactics
import Derived.Deep.QuietTactic
import Derived.Deep.RegionHeld3
import Derived.Deep.RegionLaw
import Derived.ProofKit
namespace Go.Proofs.Ytiaeagpepfmfgaa
open Go.RowKit Go.Maps Go.ChangeMaps Go.MapKept
structure Only (S:List Nat) (w w':World):Prop where
 os:w'.os=w.os
 tape:w'.tape=w.tape
 output:w'.output=w.output
 size:w.heap.size≤w'.heap.size
 block:∀ k,k < w.heap.size→k∉S→w'.heap[k]?=w.heap[k]?
theorem Only.refl (S:List Nat) (w:World):Only S w w:=⟨rfl,rfl,rfl,Nat.le_refl _,fun _ _ _=>rfl⟩
theorem Only.mono {S T:List Nat} {w w':World} (h:Only S w w') (hs:∀ k∈S,k∈T):Only T w w':=
 ⟨h.os,h.tape,h.output,h.size,fun k hk hn=>h.block k hk fun e=>hn (hs k e)⟩
theorem Only.trans {S T:List Nat} {a b c:World} (h:Only S a b) (k:Only T b c) (hs:∀ k∈T,k∈S∨a.heap.size≤k):Only S a c:=
 ⟨k.os.trans h.os,k.tape.trans h.tape,k.output.trans h.output,Nat.le_trans h.size k.size,fun i hi hn=>by
  refine (k.block i (Nat.lt_of_lt_of_le hi h.size) fun e=>?_).trans (h.block i hi hn)
  rcases hs i e with h1 | h1
  ·exact hn h1
  ·omega⟩
theorem Only.heap {S:List Nat} {w w':World} (h:Only S w w') {k:Nat} {o:Obj} (hk:w.heap[k]?=some o) (hn:k∉S):w'.heap[k]?=some o:=
 (h.block k (Array.getElem?_eq_some_iff.1 hk).1 hn).trans hk
theorem Only.alloc {S:List Nat} {a w:World} (h:Only S a w) (o:Obj):Only S a (w.alloc o):=
 h.trans ⟨rfl,rfl,rfl,by simp,fun k hk _=>Below.heap_alloc _ _ _ hk⟩ (T:=[]) (by simp)
theorem Only.drew {S:List Nat} {a w:World} (h:Only S a w):Only S a w.drew:=⟨h.os,h.tape,h.output,h.size,h.block⟩
theorem Only.setCell {S:List Nat} {a w:World} (h:Only S a w) {p:Addr} (hp:p.block∈S∨a.heap.size≤p.block) (u:Value):Only S a (w.setCell p u):=
 h.trans (T:=[p.block]) ⟨rfl,rfl,rfl,by simp,fun k _ hn=>Below.heap_setCell _ _ _ _ (by simpa using hn)⟩ (by simpa using hp)
theorem Only.setRow {S:List Nat} {a w:World} (h:Only S a w) {g:Nat} (hp:g∈S∨a.heap.size≤g) (cs:Array Value):Only S a (w.setRow g cs):=
 h.trans (T:=[g]) ⟨rfl,rfl,rfl,by simp,fun k _ hn=>setRow_other w g k cs (by simpa using hn)⟩ (by simpa using hp)
theorem Only.of_grown {w w':World} {row:Option Nat} (h:w.grownBy w' row):Only row.toList w w':=
 ⟨h.os,h.tape,h.output,h.size,fun k hk hn=>h.block k hk fun e=>hn (by rw [← e];simp)⟩
theorem Only.below {w w':World} (h:Only [] w w'):Below w.heap.size w w':=⟨h.os,h.tape,h.output,h.size,fun k hk=>h.block k hk (by simp)⟩
theorem lt_of_heap {w:World} {k:Nat} {o:Obj} (h:w.heap[k]?=some o):k < w.heap.size:=(Array.getElem?_eq_some_iff.1 h).1
theorem heap_new (w:World) (o:Obj):(w.alloc o).heap[w.heap.size]?=some o:=heap_alloc_new w o
theorem heap_old {w:World} (o:Obj) {k:Nat} {o':Obj} (h:w.heap[k]?=some o'):(w.alloc o).heap[k]?=some o':=(Below.heap_alloc w o k (lt_of_heap h)).trans h
theorem heap_row {w:World} {g:Nat} {old:Array Value} {t:TypeId} {fr:Nat×Nat} (cs:Array Value) (h:w.heap[g]?=some (.cells old t fr)):(w.setRow g cs).heap[g]?=some (.cells cs t fr):=setRow_heap w g old cs t fr h
theorem heap_cell {w:World} {g i:Nat} {old:Array Value} {t:TypeId} {fr:Nat×Nat} (v:Value) (h:w.heap[g]?=some (.cells old t fr)):(w.setCell ⟨g,i,none⟩ v).heap[g]?=some (.cells (old.setIfInBounds i v) t fr):=by
 simp [World.setCell,Array.getElem?_modify,h]
theorem cell_at {w:World} {g:Nat} {cs:Array Value} {t:TypeId} {fr:Nat×Nat} (i:Nat) (h:w.heap[g]?=some (.cells cs t fr)):w.cell? ⟨g,i,none⟩=cs[i]?:=cell_of_row w g i cs t fr h
theorem free_at {w:World} {g:Nat} {cs:Array Value} {t:TypeId} (i:Nat) (h:w.heap[g]?=some (.cells cs t (0,0))):w.frozen? ⟨g,i,none⟩=false:=frozen_of_row w g i cs t h
abbrev Sec:=List UInt8
def enc (l:Sec):Array Value:=(l.map fun c=>Value.int .u8 c.toNat).toArray
open Classical in
section
variable {P:Program} {w w':World} {b:Nat} {m:Int→Option Sec}
variable {t e:TypeId}
end
section
variable {P:Program} {w:World} {ops:Array Oper} {rest:List Oper} {o:Oper} {a:Act} {Q:Exit→Act→World→Prop}
theorem wpList_run {w':World} (hg:o.guard=none) (v:Value) (hrun:(execOp a.eval o).run P w=.ok (.value v) w')
  (h:wpList P ops Q rest (a.put o.dst v) w'):wpList P ops Q (o :: rest) a w:=by
 refine wpList_plain hg fun K' hK'=>?_
 unfold Oper.wp
 rw [hrun]
 exact hK' _ _ h
theorem wpList_alloc_row (hg:o.guard=none) (t:TypeId) (hop:o.op=.alloc t) (cs:Array Value) (hz:∀ w,(zeroValue t).run P w=.ok (.agg cs) w)
  (h:wpList P ops Q rest (a.put o.dst (.pointer (some ⟨w.heap.size,0,none⟩))) (w.alloc (.cells cs t))):wpList P ops Q (o :: rest) a w:=by
 refine wpList_plain hg fun K' hK'=>?_
 unfold Oper.wp
 have:(Instr.alloc t true (.tuple #[])).run P w=.ok (.pointer (some ⟨w.heap.size,0,none⟩)) (w.alloc (.cells cs t)):=by
  simp [Instr.alloc,hz,newVar,newRow,newObj,Value.cells,Result.andThen]
  rfl
 simp [execOp,hop,this,Result.andThen]
 exact hK' _ _ h
theorem wpList_store_row (hg:o.guard=none) (ty:TypeId) (x y:Operand) (ho:o.op=.store ty x y)
  (g:Nat) (cells:Array Value) (hx:a.eval x=.pointer (some ⟨g,0,none⟩)) (hy:a.eval y=.agg cells)
  (t:TypeId) (old:Array Value) (hg':w.heap[g]?=some (.cells old t (0,0))) (hi:(P.info? ty).map (·.size)=some cells.size)
  (hold:old.size=cells.size) (h1:cells.all (·.oneCell')=true)
  (h:wpList P ops Q rest (a.put o.dst undef) (w.setRow g cells)):wpList P ops Q (o :: rest) a w:=
 wpList_plain hg fun _ hK=>wp_store_row ty x y ho g cells hx hy t old hg' hi hold h1 (hK _ _ h)
end
section
variable {P:Program} {md:Region.Mode} {l:List Oper} {Q:Exit→Act→World→Prop} {S:World→Prop}
theorem take_list {i:Nat} {oi:Oper} {v:Value} {fuel:Nat} {listed:Array Bool} {a:Act} {w:World} (hi:l[i]?=some oi)
  (hs:Region.noSelect l.toArray=true) (hf:Region.free md l.toArray listed i=true) (hr:(Region.ready md l.toArray listed).contains i=true)
  (hQ:∀ c a w,Q (.panic c) (a.put oi.dst v) w→Q (.panic c) a w) (hy:YieldsIf P l.toArray S oi v a) (hS:S w)
  (h:wpAnyH P md l.toArray Q S fuel (listed.setIfInBounds i true) (a.put oi.dst v) w):wpAnyH P md l.toArray Q S (fuel+1) listed a w:=
 wpAnyH_take (by simpa using hi) hs hf hr hQ hy hS h
theorem ready_list {fuel:Nat} {listed:Array Bool} {a:Act} {w:World} {i:Nat} {o:Oper} (ho:l[i]?=some o)
  (h:∀ K':Act→World→Prop,Shut (∀ a w,S w→(S w→wpAnyH P md l.toArray Q S fuel (listed.setIfInBounds i true) a w)→K' a w)→if Region.wanted o (yielded l.toArray a.tmps)=true then Oper.wp P o a w K' Q else K' (a.put o.dst undef) w) :
  AllReadyH P md l.toArray Q S fuel listed a w [i]:=AllReadyH.cons (by simpa using ho) h AllReadyH.nil
end
section
variable {P:Program} {md:Region.Mode} {ops:Array Oper} {Q:Exit→Act→World→Prop} {S S':World→Prop}
end
end Go.Proofs.Ytiaeagpepfmfgaa
