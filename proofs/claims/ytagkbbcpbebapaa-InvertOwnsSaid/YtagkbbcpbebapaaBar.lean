import Derived.Test.YtagkbbcpbebapaaChecked
import Derived.Test.YtagkbbcpbebapaaWar
import Derived.ArgAppend
import Derived.Deep.AppendLies
import Derived.Deep.OwnRows
import Derived.OwnWalk
import Derived.IntWalk
import Derived.Laws.IdiomStrings
namespace Go.Proofs.Ytagkbbcpbebapaa
open Go.RowKit Go.Maps
set_option linter.unusedSimpArgs false
set_option linter.unusedVariables false
def Bytes (w:World) (v:Value) (l:Sec):Prop:=
 ∃ (a:Option Addr) (cap:Nat),v=.slice a l.length cap∧∀ i c,l[i]?=some c→∃ b off,a=some ⟨b,off,none⟩∧w.cell? ⟨b,off+i,none⟩=some (.int .u8 c.toNat)
def Parts (w:World) (v:Value) (ls:List Sec):Prop:=
 ∃ (a:Option Addr) (cap:Nat),v=.slice a ls.length cap∧∀ i l,ls[i]?=some l→∃ b off s,a=some ⟨b,off,none⟩∧w.cell? ⟨b,off+i,none⟩=some s∧Bytes w s l
def BBlk (w:World) (g:Nat) (l:Sec):Prop:=w.heap[g]?=some (.cells (enc l) 5 (0,0))
theorem BBlk.kept {S:List Nat} {w w':World} {g:Nat} {l:Sec} (h:BBlk w g l) (ho:Only S w w') (hp:g∉S):BBlk w' g l:=ho.heap h hp
theorem BBlk.lt {w:World} {g:Nat} {l:Sec} (h:BBlk w g l):g < w.heap.size:=lt_of_heap h
theorem BBlk.cell {w:World} {g:Nat} {l:Sec} (h:BBlk w g l) {i:Nat} {c:UInt8} (hi:l[i]?=some c):w.cell? ⟨g,i,none⟩=some (.int .u8 c.toNat):=by
 rw [cell_at i h,enc_get,hi]
 rfl
theorem BBlk.bytes {w:World} {g:Nat} {l:Sec} (h:BBlk w g l) (cap:Nat):Bytes w (.slice (some ⟨g,0,none⟩) l.length cap) l:=
 ⟨_,cap,rfl,fun i c hi=>⟨g,0,rfl,by rw [Nat.zero_add];exact h.cell hi⟩⟩
theorem cell_kept {S:List Nat} {w w':World} (ho:Only S w w') {ad:Addr} {v:Value} (hc:w.cell? ad=some v) (hn:ad.block∉S):w'.cell? ad=some v:=by
 have hlt:=World.block_lt_of_cell? _ _ hc
 rw [World.cell?_of_block (ho.block _ hlt hn)]
 exact hc
def Clean (S:List Nat) (w:World):Prop:=∀ (ad:Addr) (v:Value),w.cell? ad=some v→((∃ c:Int,v=.int .u8 c)∨∃ a n c,v=.slice a n c)→ad.block∉S
theorem Bytes.kept {S:List Nat} {w w':World} {v:Value} {l:Sec} (h:Bytes w v l) (ho:Only S w w') (hs:Clean S w):Bytes w' v l:=by
 obtain ⟨a,cap,hv,hc⟩:=h
 refine ⟨a,cap,hv,fun i c hi=>?_⟩
 obtain ⟨b,off,ha,hcell⟩:=hc i c hi
 exact ⟨b,off,ha,cell_kept ho hcell (hs _ _ hcell (.inl ⟨_,rfl⟩))⟩
theorem Parts.kept {S:List Nat} {w w':World} {v:Value} {ls:List Sec} (h:Parts w v ls) (ho:Only S w w') (hs:Clean S w):Parts w' v ls:=by
 obtain ⟨a,cap,hv,hc⟩:=h
 refine ⟨a,cap,hv,fun i l hi=>?_⟩
 obtain ⟨b,off,s,ha,hcell,hb⟩:=hc i l hi
 have hs':∃ a n c,s=.slice a n c:=by
  obtain ⟨a',cap',e,_⟩:=hb
  exact ⟨_,_,_,e⟩
 exact ⟨b,off,s,ha,cell_kept ho hcell (hs _ _ hcell (.inr hs')),hb.kept ho hs⟩
theorem heap_new_cell (w:World) (v:Value) (t:TypeId):(w.alloc (.cells #[v] t)).cell? ⟨w.heap.size,0,none⟩=some v:=by rw [cell_at 0 (heap_new w _)];rfl
theorem take_get {cur:Array Value} {n:Nat} {xs:List Value} (h:cur.toList.take n=xs) {j:Nat} (hj:j < n):cur[j]?=xs[j]?:=by
 rw [← h,List.getElem?_take_of_lt hj]
 simp
theorem ret_bool {a b:Bool} (h:a=b):Ending.returned (.bool a)=.returned (.bool b):=by rw [h]
theorem Parts.part {w:World} {v:Value} {ls:List Sec} (h:Parts w v ls) {k:Nat} {l:Sec} (hk:ls[k]?=some l) :
  ∃ b off cap a' cap',v=.slice (some ⟨b,off,none⟩) ls.length cap∧w.cell? ⟨b,off+k,none⟩=some (.slice a' l.length cap')∧Bytes w (.slice a' l.length cap') l:=by
 obtain ⟨a,cap,hv,hc⟩:=h
 obtain ⟨b,off,s,ha,hcell,hb⟩:=hc k l hk
 obtain ⟨a',cap',hs,hc'⟩:=hb
 subst ha;subst hs
 exact ⟨b,off,cap,a',cap',hv,hcell,a',cap',rfl,hc'⟩
def IntsV (w:World) (v:Value) (ks:List Int):Prop:=
 ∃ (a:Option Addr) (cap:Nat),v=.slice a ks.length cap∧∀ i k,ks[i]?=some k→(Lit.int .i64 k).wf=true∧∃ b off,a=some ⟨b,off,none⟩∧w.cell? ⟨b,off+i,none⟩=some (.int .i64 k)
def Off (v:Value) (S:List Nat):Prop:=∀ a n c,v=.slice (some a) n c→0 < n→a.block∉S
theorem IntsV.kept {S:List Nat} {w w':World} {v:Value} {ks:List Int} (h:IntsV w v ks) (ho:Only S w w') (hs:Off v S):IntsV w' v ks:=by
 obtain ⟨a,cap,hv,hc⟩:=h
 refine ⟨a,cap,hv,fun i c hi=>?_⟩
 obtain ⟨hw,b,off,ha,hcell⟩:=hc i c hi
 exact ⟨hw,b,off,ha,cell_kept ho hcell (hs ⟨b,off,none⟩ _ _ (by rw [hv,ha]) (Nat.lt_of_le_of_lt (Nat.zero_le _) (List.getElem?_eq_some_iff.1 hi).1))⟩
theorem IntsV.at_ {w:World} {v:Value} {ks:List Int} (h:IntsV w v ks) {i:Nat} {k:Int} (hi:ks[i]?=some k) :
  (Lit.int .i64 k).wf=true∧∃ b off cap,v=.slice (some ⟨b,off,none⟩) ks.length cap∧w.cell? ⟨b,off+i,none⟩=some (.int .i64 k):=by
 obtain ⟨a,cap,hv,hc⟩:=h
 obtain ⟨hw,b,off,ha,hcell⟩:=hc i k hi
 exact ⟨hw,b,off,cap,by rw [hv,ha],hcell⟩
section
variable {P:Program} {md:Region.Mode} {l:List Oper} {Q:Exit→Act→World→Prop} {S:World→Prop}
theorem ready_two {fuel:Nat} {listed:Array Bool} {a:Act} {w:World} {i j:Nat} {o p:Oper} (ho:l[i]?=some o) (hp:l[j]?=some p)
  (h:∀ K':Act→World→Prop,Shut (∀ a w,S w→(S w→wpAnyH P md l.toArray Q S fuel (listed.setIfInBounds i true) a w)→K' a w)→if Region.wanted o (yielded l.toArray a.tmps)=true then Oper.wp P o a w K' Q else K' (a.put o.dst undef) w)
  (h2:∀ K':Act→World→Prop,Shut (∀ a w,S w→(S w→wpAnyH P md l.toArray Q S fuel (listed.setIfInBounds j true) a w)→K' a w)→if Region.wanted p (yielded l.toArray a.tmps)=true then Oper.wp P p a w K' Q else K' (a.put p.dst undef) w) :
  AllReadyH P md l.toArray Q S fuel listed a w [i,j]:=AllReadyH.cons (by simpa using ho) h (AllReadyH.cons (by simpa using hp) h2 AllReadyH.nil)
end
def Row (w:World) (v:Value) (n:Nat):Prop:=
 (v=.slice none 0 0∧n=0)∨
 ∃ g cap cur,v=.slice (some ⟨g,0,none⟩) n cap∧n≤cap∧cap≤maxLen∧w.heap[g]?=some (.cells cur 5 (0,0))∧cap≤cur.size∧∀ j,j < n→∃ c:Int,cur[j]?=some (.int .u8 c)
theorem Row.shape {w:World} {v:Value} {n:Nat} (h:Row w v n):∃ a cap,v=.slice a n cap∧n≤cap:=by
 rcases h with ⟨rfl,rfl⟩ | ⟨g,cap,cur,rfl,h1,_⟩
 ·exact ⟨_,_,rfl,by omega⟩
 ·exact ⟨_,_,rfl,h1⟩
theorem Row.at_ {w:World} {a:Option Addr} {n cap:Nat} (h:Row w (.slice a n cap) n) (hn:0 < n) :
  ∃ g cur,a=some ⟨g,0,none⟩∧w.heap[g]?=some (.cells cur 5 (0,0))∧cap≤cur.size∧n≤cap∧∀ j,j < n→∃ c:Int,cur[j]?=some (.int .u8 c):=by
 rcases h with ⟨e,rfl⟩ | ⟨g,cap',cur,e,h1,_,h2,h3,h4⟩
 ·omega
 ·cases e
  exact ⟨g,cur,rfl,h2,h3,h1,h4⟩
theorem Row.lt {w:World} {v:Value} {n g:Nat} (h:Row w v n) (hg:v.ownBlock=some g):g < w.heap.size:=by
 rcases h with ⟨rfl,rfl⟩ | ⟨g',cap,cur,rfl,_,_,h2,_⟩
 ·cases hg
 ·cases hg
  exact lt_of_heap h2
theorem Row.kept {w w':World} {S:List Nat} {v:Value} {n:Nat} (h:Row w v n) (ho:Only S w w') (hs:∀ g∈S,v.ownBlock≠some g):Row w' v n:=by
 rcases h with h | ⟨g,cap,cur,rfl,h1,h2,h3,h4⟩
 ·exact .inl h
 ·exact .inr ⟨g,cap,cur,rfl,h1,h2,ho.heap h3 (fun e=>hs g e rfl),h4⟩
theorem BBlk.row {w:World} {g:Nat} {l:Sec} (h:BBlk w g l) (hl:l.length≤maxLen):Row w (.slice (some ⟨g,0,none⟩) l.length l.length) l.length:=
 .inr ⟨g,l.length,_,rfl,Nat.le_refl _,hl,h,by simp,fun j hj=>⟨_,by rw [enc_get,List.getElem?_eq_getElem hj];rfl⟩⟩
theorem Row.set {w:World} {v:Value} {n g i:Nat} {c:Int} (h:Row w v n):Row (w.setCell ⟨g,i,none⟩ (.int .u8 c)) v n:=by
 rcases h with h | ⟨g',cap,cur,rfl,h1,h2,h3,h4,h5⟩
 ·exact .inl h
 ·by_cases e:g'=g
  ·subst e
   refine .inr ⟨g',cap,_,rfl,h1,h2,heap_cell _ h3,by simpa using h4,fun j hj=>?_⟩
   rw [Array.getElem?_setIfInBounds]
   split
   ·rw [if_pos (by omega)]
    exact ⟨_,rfl⟩
   ·exact h5 j hj
  ·refine .inr ⟨g',cap,cur,rfl,h1,h2,?_,h4,h5⟩
   exact (((Only.refl [g] w).setCell (p:=⟨g,i,none⟩) (by simp) _).heap h3 (by simpa using e))
abbrev err (n:Int):Value:=.iface 42 (.int .i64 n)
theorem own_kept {w w':World} {base n:Nat} {e:TypeId} {v:Value} {xs:List Value} {S:List Nat} (h:w.ownsRow base e 1 v n xs) (ho:Only S w w') (hs:∀ k∈S,v.ownBlock≠some k):w'.ownsRow base e 1 v n xs:=by
 refine ⟨h.1,?_⟩
 rcases h.2 with hn | ⟨g,cap,cur,rfl,hb,hg,r⟩
 ·exact .inl hn
 ·exact .inr ⟨g,cap,cur,rfl,hb,ho.heap hg (fun e=>hs g e rfl),r⟩
theorem own_shape {w:World} {base n:Nat} {e:TypeId} {v:Value} {xs:List Value} (h:w.ownsRow base e 1 v n xs):∃ a cap,v=.slice a n cap∧n≤cap:=by
 rcases h.2 with ⟨rfl,rfl⟩ | ⟨g,cap,cur,rfl,_,_,h1,_⟩
 ·exact ⟨_,_,rfl,Nat.le_refl _⟩
 ·exact ⟨_,_,rfl,h1⟩
theorem own_at {w:World} {base n cap:Nat} {e:TypeId} {a:Option Addr} {xs:List Value} (h:w.ownsRow base e 1 (.slice a n cap) n xs) {i:Nat} {x:Value} (hi:xs[i]?=some x):∃ g,a=some ⟨g,0,none⟩∧w.cell? ⟨g,i,none⟩=some x∧base≤g:=by
 have hlt:i < n:=by
  have h1:=h.1
  have h2:=(List.getElem?_eq_some_iff.1 hi).1
  omega
 rcases h.2 with ⟨_,e⟩ | ⟨g,cap',cur,e,hb,hg,h1,_,h2,h3⟩
 ·omega
 ·cases e
  refine ⟨g,rfl,?_,hb⟩
  rw [cell_at i hg]
  rw [Nat.mul_one] at h3
  rw [take_get h3 hlt,hi]
section
variable {w:World} {ops:Array Oper} {rest:List Oper} {o:Oper} {a:Act} {Q:Exit→Act→World→Prop}
end
theorem run_append_empty {P:Program} {w:World} (base:Nat) (t ty e:TypeId) (i:TypeInfo) (size:Nat) (ht:P.underlying t=some (.slice e)) (hi:P.info? e=some i)
  (v:Value) (n:Nat) (xs:List Value) (hown:w.ownsRow base e size v n xs) (ao:Option Addr) (c:Nat) :
  (Builtin.append_ #[t,t] ty #[v,.slice ao 0 c]).run P w=.ok v w:=by
 rcases hown.2 with ⟨rfl,rfl⟩ | ⟨g,cap,cur,rfl,_,_,hnc,_⟩
 ·cases ao<;>simp [Builtin.append_,run_underlying ht,sizeOf,typeInfo,hi,Builtin.lenOf,Builtin.firstCells,loadCells,loadCellsFrom]
 ·cases ao<;>simp [Builtin.append_,run_underlying ht,sizeOf,typeInfo,hi,Builtin.lenOf,Builtin.firstCells,hnc,storeCells,loadCells,loadCellsFrom]
def strOf (l:Sec):ByteArray:=⟨l.toArray⟩
end Go.Proofs.Ytagkbbcpbebapaa
namespace Go.Proofs.Ytagkbbcpbebapaa
open Go.RowKit Go.Maps
set_option linter.unusedSimpArgs false
set_option linter.unusedVariables false
def bv (l:Sec):List Value:=l.map fun c=>Value.int .u8 c.toNat
theorem bv_get (l:Sec) (i:Nat):(bv l)[i]?=(l[i]?).map fun c=>Value.int .u8 c.toNat:=by simp [bv]
def Own (w:World) (base:Nat) (v:Value) (l:Sec):Prop:=w.ownsRow base 5 1 v l.length (bv l)
section
variable {w w':World} {base:Nat} {v:Value} {l m:Sec}
theorem Own.shape (h:Own w base v l):∃ a cap,v=.slice a l.length cap∧l.length≤cap:=own_shape h
theorem Own.kept {S:List Nat} (h:Own w base v l) (ho:Only S w w') (hs:∀ k∈S,v.ownBlock≠some k):Own w' base v l:=own_kept h ho hs
theorem Own.quiet (h:Own w base v l) (ho:Only [] w w'):Own w' base v l:=own_kept h ho (by simp)
theorem Own.lt (h:Own w base v l) {k:Nat} (hk:v.ownBlock=some k):base≤k∧k < w.heap.size:=World.ownsRow.lt h k hk
theorem Own.mono {base':Nat} (h:Own w base v l) (hb:base'≤base):Own w base' v l:=by
 refine ⟨h.1,?_⟩
 rcases h.2 with hn | ⟨g,cap,cur,rfl,hb',r⟩
 ·exact .inl hn
 ·exact .inr ⟨g,cap,cur,rfl,by omega,r⟩
theorem Own.bytes (h:Own w base v l):Bytes w v l:=by
 obtain ⟨a,cap,rfl,_⟩:=h.shape
 refine ⟨a,cap,rfl,fun i c hi=>?_⟩
 have hi':(bv l)[i]?=some (.int .u8 c.toNat):=by rw [bv_get,hi];rfl
 obtain ⟨g,ha,hc,_⟩:=own_at h hi'
 exact ⟨g,0,ha,by rw [Nat.zero_add];exact hc⟩
theorem Own.row (h:Own w base v l):Row w v l.length:=by
 rcases h.2 with hn | ⟨g,cap,cur,rfl,hb',hg,h1,h2,h3,h4⟩
 ·exact .inl hn
 ·refine .inr ⟨g,cap,cur,rfl,h1,h2,hg,by omega,fun j hj=>⟨l[j].toNat,?_⟩⟩
  rw [Nat.mul_one] at h4
  rw [take_get h4 hj,bv_get,List.getElem?_eq_getElem hj]
  rfl
theorem Own.nil (w:World) (base:Nat):Own w base (.slice none 0 0) []:=World.ownsRow_nil w base _ 1
theorem Own.made (w:World) (l:Sec) (cs:Array Value) (hcs:cs=enc l) (hb:base≤w.heap.size) (hl:l.length≤maxLen):Own (w.alloc (.cells cs 5)) base (.slice (some ⟨w.heap.size,0,none⟩) l.length l.length) l:=by
 subst hcs
 refine ⟨by simp [bv],.inr ⟨w.heap.size,l.length,_,rfl,hb,heap_new w _,Nat.le_refl _,hl,by simp,?_⟩⟩
 rw [Nat.mul_one,List.take_of_length_le (by simp)]
 simp [enc,bv]
end
structure Ext (w:World) (v:Value) (w':World) (v':Value):Prop where
 only:Only v.ownBlock.toList w w'
 src:∀ g,v'.ownBlock=some g→v.ownBlock=some g∨w.heap.size≤g
theorem Ext.refl (w:World) (v:Value):Ext w v w v:=⟨Only.refl _ _,fun g h=>.inl h⟩
theorem Ext.trans {a b c:World} {u v x:Value} (h:Ext a u b v) (k:Ext b v c x):Ext a u c x:=
 ⟨h.only.trans k.only (fun g hg=>by
  rcases h.src g (by simpa using hg) with h1 | h1
  ·exact .inl (by simpa using h1)
  ·exact .inr h1),fun g hg=>by
  rcases k.src g hg with h1 | h1
  ·exact h.src g h1
  ·exact .inr (Nat.le_trans h.only.size h1)⟩
theorem Ext.quiet {a b c:World} {u v:Value} (h:Ext a u b v) (k:Only [] b c):Ext a u c v:=⟨h.only.trans k (by simp),h.src⟩
theorem Ext.before {a b c:World} {u v:Value} (k:Only [] a b) (h:Ext b u c v):Ext a u c v:=
 ⟨(k.mono (by simp)).trans h.only (fun g hg=>.inl hg),fun g hg=>(h.src g hg).imp id fun h1=>Nat.le_trans k.size h1⟩
theorem Ext.fresh {w0 a b:World} {base:Nat} {u v:Value} {l:Sec} (h0:Only [] w0 a) (hu:Own a base u l) (hb:w0.heap.size≤base) (h:Ext a u b v):Only [] w0 b:=
 h0.trans h.only (fun g hg=>.inr (by have:=(hu.lt (k:=g) (by simpa using hg)).1;omega))
section
variable {w:World} {ops:Array Oper} {rest:List Oper} {o:Oper} {a:Act} {Q:Exit→Act→World→Prop}
end
theorem Bytes.part {w:World} {a:Option Addr} {n cap:Nat} {l:Sec} (h:Bytes w (.slice a n cap) l) (i j cap':Nat) (b:Option Addr) (hb:∀ g off,a=some ⟨g,off,none⟩→i < j→b=some ⟨g,off+i,none⟩) (hj:j≤l.length) :
  Bytes w (.slice b (j - i) cap') ((l.take j).drop i):=by
 obtain ⟨a',cap'',e,hc⟩:=h
 injection e with e1 e2 e3
 subst e1
 refine ⟨b,cap',by simp;omega,fun k c hk=>?_⟩
 rw [List.getElem?_drop] at hk
 have hlt:=(List.getElem?_eq_some_iff.1 hk).1
 rw [List.length_take] at hlt
 rw [List.getElem?_take_of_lt (by omega)] at hk
 obtain ⟨g,off,ha,hcell⟩:=hc _ c hk
 exact ⟨g,off+i,hb g off ha (by omega),by rw [Nat.add_assoc];exact hcell⟩
def Fit (v:Value):Prop:=∀ a n c,v=.slice a n c→n≤c∧c≤maxLen
def iv (xs:List Int):List Value:=xs.map (Value.int .i64)
theorem iv_length (xs:List Int):(iv xs).length=xs.length:=by simp [iv]
theorem info_int:(Try.prog.info? 3).map (fun i=>(i.zero,i.size,i.bytes))=some (some (.int .i64 0),1,8):=by kernel_rfl
section
variable {w:World} {ops:Array Oper} {rest:List Oper} {o:Oper} {a:Act} {Q:Exit→Act→World→Prop}
theorem wpList_append_int (hgd:o.guard=none) (s x:Operand) (ho:o.op=.call {callee:=.builtin .append,args:=#[s,x],argTypes:=#[39,39] })
  (base:Nat) (v:Value) (xs:List Int) (hs:a.eval s=v) (hown:w.ownsRow base 3 1 v xs.length (iv xs)) (bx:Nat) (hx:a.eval x=.slice (some ⟨bx,0,none⟩) 1 1) (k:Int) (hk:w.cell? ⟨bx,0,none⟩=some (.int .i64 k)) (hn:xs.length≤1099511627776) (hb:base≤w.heap.size)
  (h:∀ g cap w',w'.ownsRow base 3 1 (.slice (some ⟨g,0,none⟩) (xs.length+1) cap) (xs++[k]).length (iv (xs++[k]))→Only v.ownBlock.toList w w'→wpList Try.prog ops Q rest (a.put o.dst (.slice (some ⟨g,0,none⟩) (xs.length+1) cap)) w'):wpList Try.prog ops Q (o :: rest) a w:=by
 obtain ⟨i,hi,hz⟩:=Option.map_eq_some_iff.1 info_int
 simp only [Prod.mk.injEq] at hz
 obtain ⟨z1,z2,z3⟩:=hz
 refine wpList_append_lies _ hgd s x 39 ho base 3 i (.int .i64 0) 1 8 Try.underlying39 hi z1 z2 z3 rfl (by omega) v xs.length (iv xs) hs hown ⟨bx,0,none⟩ 1 1 [.int .i64 k] hx rfl ?_ (by simp [Value.oneCell']) (by omega) (by unfold maxLen;omega) (by omega) hb w.heap.size rfl ?_
 ·intro j u hj
  cases j with
  | zero=>
   simp at hj
   subst hj
   have:(⟨bx,0,none⟩:Addr).add 0=⟨bx,0,none⟩:=by simp [Addr.add]
   rw [this]
   exact hk
  | succ j=>simp at hj
 ·intro g cap w' h1 h2 _ _
  refine h g cap w' ?_ (Only.of_grown h2)
  have e1:iv (xs++[k])=iv xs++[.int .i64 k]:=by simp [iv]
  rw [e1,List.length_append]
  exact h1
end
end Go.Proofs.Ytagkbbcpbebapaa
