import Derived.Test.YtcebchffcmpfeaaGreatChecked
import Derived.Test.YtcebchffcmpfeaaGreatWat
import Derived.ArgAppend
import Derived.Deep.AppendLies
import Derived.Deep.OwnRows
import Derived.OwnWalk
import Derived.IntWalk
import Derived.Laws.IdiomStrings
namespace Go.Proofs.YtcebchffcmpfeaaGreat
set_option linter.unusedVariables false
set_option linter.unusedSimpArgs false
open Go.RowKit Go.Maps
def Bytes (w:World) (v:Value) (l:Sec):Prop:=
 ∃ (a:Option Addr) (cap:Nat),v=.slice a l.length cap∧∀ i c,l[i]?=some c→∃ b off,a=some ⟨b,off,none⟩∧w.cell? ⟨b,off+i,none⟩=some (.int .u8 c.toNat)
def Parts (w:World) (v:Value) (ls:List Sec):Prop:=
 ∃ (a:Option Addr) (cap:Nat),v=.slice a ls.length cap∧∀ i l,ls[i]?=some l→∃ b off s,a=some ⟨b,off,none⟩∧w.cell? ⟨b,off+i,none⟩=some s∧Bytes w s l
def BBlk (w:World) (g:Nat) (l:Sec):Prop:=w.heap[g]?=some (.cells (enc l) 5 (0,0))
theorem BBlk.kept {S:List Nat} {w w':World} {g:Nat} {l:Sec} (h:BBlk w g l) (ho:Only S w w') (hp:g∉S):BBlk w' g l:=ho.heap h hp
theorem BBlk.lt {w:World} {g:Nat} {l:Sec} (h:BBlk w g l):g < w.heap.size:=ak h
theorem BBlk.cell {w:World} {g:Nat} {l:Sec} (h:BBlk w g l) {i:Nat} {c:UInt8} (hi:l[i]?=some c):w.cell? ⟨g,i,none⟩=some (.int .u8 c.toNat):=by
 rw [ab i h,ub,hi];rfl
theorem BBlk.bytes {w:World} {g:Nat} {l:Sec} (h:BBlk w g l) (cap:Nat):Bytes w (.slice (some ⟨g,0,none⟩) l.length cap) l:=
 ⟨_,cap,rfl,fun i c hi=>⟨g,0,rfl,by rw [Nat.zero_add];exact h.cell hi⟩⟩
theorem ac {S:List Nat} {w w':World} (ho:Only S w w') {ad:Addr} {v:Value} (hc:w.cell? ad=some v) (hn:ad.block∉S):w'.cell? ad=some v:=by
 have hlt:=World.block_lt_of_cell? _ _ hc;rw [World.cell?_of_block (ho.block _ hlt hn)];exact hc
def Clean (S:List Nat) (w:World):Prop:=∀ (ad:Addr) (v:Value),w.cell? ad=some v→((∃ c:Int,v=.int .u8 c)∨∃ a n c,v=.slice a n c)→ad.block∉S
theorem Bytes.kept {S:List Nat} {w w':World} {v:Value} {l:Sec} (h:Bytes w v l) (ho:Only S w w') (hs:Clean S w):Bytes w' v l:=by
 obtain ⟨a,cap,hv,hc⟩:=h;refine ⟨a,cap,hv,fun i c hi=>?_⟩;obtain ⟨b,off,ha,hcell⟩:=hc i c hi;exact ⟨b,off,ha,ac ho hcell (hs _ _ hcell (.inl ⟨_,rfl⟩))⟩
theorem Parts.kept {S:List Nat} {w w':World} {v:Value} {ls:List Sec} (h:Parts w v ls) (ho:Only S w w') (hs:Clean S w):Parts w' v ls:=by
 obtain ⟨a,cap,hv,hc⟩:=h;refine ⟨a,cap,hv,fun i l hi=>?_⟩;obtain ⟨b,off,s,ha,hcell,hb⟩:=hc i l hi;have hs':∃ a n c,s=.slice a n c:=by
  obtain ⟨a',cap',e,_⟩:=hb;exact ⟨_,_,_,e⟩
 exact ⟨b,off,s,ha,ac ho hcell (hs _ _ hcell (.inr hs')),hb.kept ho hs⟩
theorem fP (w:World) (v:Value) (t:TypeId):(w.alloc (.cells #[v] t)).cell? ⟨w.heap.size,0,none⟩=some v:=by rw [ab 0 (ag w _)];rfl
theorem qH {cur:Array Value} {n:Nat} {xs:List Value} (h:cur.toList.take n=xs) {j:Nat} (hj:j < n):cur[j]?=xs[j]?:=by
 rw [← h,List.getElem?_take_of_lt hj];simp
theorem am {a b:Bool} (h:a=b):Ending.returned (.bool a)=.returned (.bool b):=by rw [h]
theorem Parts.part {w:World} {v:Value} {ls:List Sec} (h:Parts w v ls) {k:Nat} {l:Sec} (hk:ls[k]?=some l) :
  ∃ b off cap a' cap',v=.slice (some ⟨b,off,none⟩) ls.length cap∧w.cell? ⟨b,off+k,none⟩=some (.slice a' l.length cap')∧Bytes w (.slice a' l.length cap') l:=by
 obtain ⟨a,cap,hv,hc⟩:=h;obtain ⟨b,off,s,ha,hcell,hb⟩:=hc k l hk;obtain ⟨a',cap',hs,hc'⟩:=hb;subst ha;subst hs;exact ⟨b,off,cap,a',cap',hv,hcell,a',cap',rfl,hc'⟩
def IntsV (w:World) (v:Value) (ks:List Int):Prop:=
 ∃ (a:Option Addr) (cap:Nat),v=.slice a ks.length cap∧∀ i k,ks[i]?=some k→(Lit.int .i64 k).wf=true∧∃ b off,a=some ⟨b,off,none⟩∧w.cell? ⟨b,off+i,none⟩=some (.int .i64 k)
def Off (v:Value) (S:List Nat):Prop:=∀ a n c,v=.slice (some a) n c→0 < n→a.block∉S
theorem IntsV.kept {S:List Nat} {w w':World} {v:Value} {ks:List Int} (h:IntsV w v ks) (ho:Only S w w') (hs:Off v S):IntsV w' v ks:=by
 obtain ⟨a,cap,hv,hc⟩:=h;refine ⟨a,cap,hv,fun i c hi=>?_⟩;obtain ⟨hw,b,off,ha,hcell⟩:=hc i c hi;exact ⟨hw,b,off,ha,ac ho hcell (hs ⟨b,off,none⟩ _ _ (by rw [hv,ha]) (Nat.lt_of_le_of_lt (Nat.zero_le _) (List.getElem?_eq_some_iff.1 hi).1))⟩
theorem IntsV.at_ {w:World} {v:Value} {ks:List Int} (h:IntsV w v ks) {i:Nat} {k:Int} (hi:ks[i]?=some k) :
  (Lit.int .i64 k).wf=true∧∃ b off cap,v=.slice (some ⟨b,off,none⟩) ks.length cap∧w.cell? ⟨b,off+i,none⟩=some (.int .i64 k):=by
 obtain ⟨a,cap,hv,hc⟩:=h;obtain ⟨hw,b,off,ha,hcell⟩:=hc i k hi;exact ⟨hw,b,off,cap,by rw [hv,ha],hcell⟩
section
variable {P:Program} {md:Region.Mode} {l:List Oper} {Q:Exit→Act→World→Prop} {S:World→Prop}
theorem ue {fuel:Nat} {listed:Array Bool} {a:Act} {w:World} {i j:Nat} {o p:Oper} (ho:l[i]?=some o) (hp:l[j]?=some p)
  (h:∀ K':Act→World→Prop,Shut (∀ a w,S w→(S w→wpAnyH P md l.toArray Q S fuel (listed.setIfInBounds i true) a w)→K' a w)→if Region.wanted o (yielded l.toArray a.tmps)=true then Oper.wp P o a w K' Q else K' (a.put o.dst undef) w)
  (h2:∀ K':Act→World→Prop,Shut (∀ a w,S w→(S w→wpAnyH P md l.toArray Q S fuel (listed.setIfInBounds j true) a w)→K' a w)→if Region.wanted p (yielded l.toArray a.tmps)=true then Oper.wp P p a w K' Q else K' (a.put p.dst undef) w) :
  AllReadyH P md l.toArray Q S fuel listed a w [i,j]:=AllReadyH.cons (by simpa using ho) h (AllReadyH.cons (by simpa using hp) h2 AllReadyH.nil)
end
def Row (w:World) (v:Value) (n:Nat):Prop:=
 (v=.slice none 0 0∧n=0)∨
 ∃ g cap cur,v=.slice (some ⟨g,0,none⟩) n cap∧n≤cap∧cap≤maxLen∧w.heap[g]?=some (.cells cur 5 (0,0))∧cap≤cur.size∧∀ j,j < n→∃ c:Int,cur[j]?=some (.int .u8 c)
theorem Row.shape {w:World} {v:Value} {n:Nat} (h:Row w v n):∃ a cap,v=.slice a n cap∧n≤cap:=by
 rcases h with ⟨rfl,rfl⟩ | ⟨g,cap,cur,rfl,h1,_⟩
 ·exact ⟨_,_,rfl,by omega⟩
 ·exact ⟨_,_,rfl,h1⟩
theorem Row.at_ {w:World} {a:Option Addr} {n cap:Nat} (h:Row w (.slice a n cap) n) (hn:0 < n) :
  ∃ g cur,a=some ⟨g,0,none⟩∧w.heap[g]?=some (.cells cur 5 (0,0))∧cap≤cur.size∧n≤cap∧∀ j,j < n→∃ c:Int,cur[j]?=some (.int .u8 c):=by
 rcases h with ⟨e,rfl⟩ | ⟨g,cap',cur,e,h1,_,h2,h3,h4⟩
 ·omega
 ·cases e;exact ⟨g,cur,rfl,h2,h3,h1,h4⟩
theorem Row.lt {w:World} {v:Value} {n g:Nat} (h:Row w v n) (hg:v.ownBlock=some g):g < w.heap.size:=by
 rcases h with ⟨rfl,rfl⟩ | ⟨g',cap,cur,rfl,_,_,h2,_⟩
 ·cases hg
 ·cases hg;exact ak h2
theorem Row.kept {w w':World} {S:List Nat} {v:Value} {n:Nat} (h:Row w v n) (ho:Only S w w') (hs:∀ g∈S,v.ownBlock≠some g):Row w' v n:=by
 rcases h with h | ⟨g,cap,cur,rfl,h1,h2,h3,h4⟩
 ·exact .inl h
 ·exact .inr ⟨g,cap,cur,rfl,h1,h2,ho.heap h3 (fun e=>hs g e rfl),h4⟩
theorem BBlk.row {w:World} {g:Nat} {l:Sec} (h:BBlk w g l) (hl:l.length≤maxLen):Row w (.slice (some ⟨g,0,none⟩) l.length l.length) l.length:=
 .inr ⟨g,l.length,_,rfl,Nat.le_refl _,hl,h,by simp,fun j hj=>⟨_,by rw [ub,List.getElem?_eq_getElem hj];rfl⟩⟩
theorem Row.set {w:World} {v:Value} {n g i:Nat} {c:Int} (h:Row w v n):Row (w.setCell ⟨g,i,none⟩ (.int .u8 c)) v n:=by
 rcases h with h | ⟨g',cap,cur,rfl,h1,h2,h3,h4,h5⟩
 ·exact .inl h
 ·by_cases e:g'=g
  ·subst e;refine .inr ⟨g',cap,_,rfl,h1,h2,af _ h3,by simpa using h4,fun j hj=>?_⟩;rw [Array.getElem?_setIfInBounds];split
   ·rw [if_pos (by omega)];exact ⟨_,rfl⟩
   ·exact h5 j hj
  ·refine .inr ⟨g',cap,cur,rfl,h1,h2,?_,h4,h5⟩;exact (((Only.refl [g] w).setCell (p:=⟨g,i,none⟩) (by simp) _).heap h3 (by simpa using e))
abbrev err (n:Int):Value:=.iface 49 (.int .i64 n)
theorem qI {w w':World} {base n:Nat} {e:TypeId} {v:Value} {xs:List Value} {S:List Nat} (h:w.ownsRow base e 1 v n xs) (ho:Only S w w') (hs:∀ k∈S,v.ownBlock≠some k):w'.ownsRow base e 1 v n xs:=by
 refine ⟨h.1,?_⟩;rcases h.2 with hn | ⟨g,cap,cur,rfl,hb,hg,r⟩
 ·exact .inl hn
 ·exact .inr ⟨g,cap,cur,rfl,hb,ho.heap hg (fun e=>hs g e rfl),r⟩
theorem uf {w:World} {base n:Nat} {e:TypeId} {v:Value} {xs:List Value} (h:w.ownsRow base e 1 v n xs):∃ a cap,v=.slice a n cap∧n≤cap:=by
 rcases h.2 with ⟨rfl,rfl⟩ | ⟨g,cap,cur,rfl,_,_,h1,_⟩
 ·exact ⟨_,_,rfl,Nat.le_refl _⟩
 ·exact ⟨_,_,rfl,h1⟩
theorem own_at {w:World} {base n cap:Nat} {e:TypeId} {a:Option Addr} {xs:List Value} (h:w.ownsRow base e 1 (.slice a n cap) n xs) {i:Nat} {x:Value} (hi:xs[i]?=some x):∃ g,a=some ⟨g,0,none⟩∧w.cell? ⟨g,i,none⟩=some x∧base≤g:=by
 have hlt:i < n:=by
  have h1:=h.1;have h2:=(List.getElem?_eq_some_iff.1 hi).1;omega
 rcases h.2 with ⟨_,e⟩ | ⟨g,cap',cur,e,hb,hg,h1,_,h2,h3⟩
 ·omega
 ·cases e;refine ⟨g,rfl,?_,hb⟩;rw [ab i hg];rw [Nat.mul_one] at h3;rw [qH h3 hlt,hi]
section
variable {w:World} {ops:Array Oper} {rest:List Oper} {o:Oper} {a:Act} {Q:Exit→Act→World→Prop}
end
theorem iL {P:Program} {w:World} (base:Nat) (t ty e:TypeId) (i:TypeInfo) (size:Nat) (ht:P.underlying t=some (.slice e)) (hi:P.info? e=some i)
  (v:Value) (n:Nat) (xs:List Value) (hown:w.ownsRow base e size v n xs) (ao:Option Addr) (c:Nat) :
  (Builtin.append_ #[t,t] ty #[v,.slice ao 0 c]).run P w=.ok v w:=by
 rcases hown.2 with ⟨rfl,rfl⟩ | ⟨g,cap,cur,rfl,_,_,hnc,_⟩
 ·cases ao<;>simp [Builtin.append_,run_underlying ht,sizeOf,typeInfo,hi,Builtin.lenOf,Builtin.firstCells,loadCells,loadCellsFrom]
 ·cases ao<;>simp [Builtin.append_,run_underlying ht,sizeOf,typeInfo,hi,Builtin.lenOf,Builtin.firstCells,hnc,storeCells,loadCells,loadCellsFrom]
def aj (l:Sec):ByteArray:=⟨l.toArray⟩
def bv (l:Sec):List Value:=l.map fun c=>Value.int .u8 c.toNat
theorem bv_get (l:Sec) (i:Nat):(bv l)[i]?=(l[i]?).map fun c=>Value.int .u8 c.toNat:=by simp [bv]
def Own (w:World) (base:Nat) (v:Value) (l:Sec):Prop:=w.ownsRow base 5 1 v l.length (bv l)
section
variable {w w':World} {base:Nat} {v:Value} {l m:Sec}
theorem Own.shape (h:Own w base v l):∃ a cap,v=.slice a l.length cap∧l.length≤cap:=uf h
theorem Own.kept {S:List Nat} (h:Own w base v l) (ho:Only S w w') (hs:∀ k∈S,v.ownBlock≠some k):Own w' base v l:=qI h ho hs
theorem Own.quiet (h:Own w base v l) (ho:Only [] w w'):Own w' base v l:=qI h ho (by simp)
theorem Own.lt (h:Own w base v l) {k:Nat} (hk:v.ownBlock=some k):base≤k∧k < w.heap.size:=World.ownsRow.lt h k hk
theorem Own.mono {base':Nat} (h:Own w base v l) (hb:base'≤base):Own w base' v l:=by
 refine ⟨h.1,?_⟩;rcases h.2 with hn | ⟨g,cap,cur,rfl,hb',r⟩
 ·exact .inl hn
 ·exact .inr ⟨g,cap,cur,rfl,by omega,r⟩
theorem Own.bytes (h:Own w base v l):Bytes w v l:=by
 obtain ⟨a,cap,rfl,_⟩:=h.shape;refine ⟨a,cap,rfl,fun i c hi=>?_⟩;have hi':(bv l)[i]?=some (.int .u8 c.toNat):=by rw [bv_get,hi];rfl
 obtain ⟨g,ha,hc,_⟩:=own_at h hi';exact ⟨g,0,ha,by rw [Nat.zero_add];exact hc⟩
theorem Own.row (h:Own w base v l):Row w v l.length:=by
 rcases h.2 with hn | ⟨g,cap,cur,rfl,hb',hg,h1,h2,h3,h4⟩
 ·exact .inl hn
 ·refine .inr ⟨g,cap,cur,rfl,h1,h2,hg,by omega,fun j hj=>⟨l[j].toNat,?_⟩⟩;rw [Nat.mul_one] at h4;rw [qH h4 hj,bv_get,List.getElem?_eq_getElem hj];rfl
theorem Own.nil (w:World) (base:Nat):Own w base (.slice none 0 0) []:=World.ownsRow_nil w base _ 1
theorem Own.made (w:World) (l:Sec) (cs:Array Value) (hcs:cs=enc l) (hb:base≤w.heap.size) (hl:l.length≤maxLen):Own (w.alloc (.cells cs 5)) base (.slice (some ⟨w.heap.size,0,none⟩) l.length l.length) l:=by
 subst hcs;refine ⟨by simp [bv],.inr ⟨w.heap.size,l.length,_,rfl,hb,ag w _,Nat.le_refl _,hl,by simp,?_⟩⟩;rw [Nat.mul_one,List.take_of_length_le (by simp)];simp [enc,bv]
end
structure Ext (w:World) (v:Value) (w':World) (v':Value):Prop where
 only:Only v.ownBlock.toList w w'
 src:∀ g,v'.ownBlock=some g→v.ownBlock=some g∨w.heap.size≤g
theorem Ext.refl (w:World) (v:Value):Ext w v w v:=⟨Only.refl _ _,fun g h=>.inl h⟩
theorem Ext.trans {a b c:World} {u v x:Value} (h:Ext a u b v) (k:Ext b v c x):Ext a u c x:=
 ⟨h.only.trans k.only (fun g hg=>by
  rcases h.src g (by simpa using hg) with h1 | h1
  ·exact .inl (by simpa using h1)
  ·exact .inr h1),fun g hg=>by
  rcases k.src g hg with h1 | h1
  ·exact h.src g h1
  ·exact .inr (Nat.le_trans h.only.size h1)⟩
theorem Ext.quiet {a b c:World} {u v:Value} (h:Ext a u b v) (k:Only [] b c):Ext a u c v:=⟨h.only.trans k (by simp),h.src⟩
theorem Ext.before {a b c:World} {u v:Value} (k:Only [] a b) (h:Ext b u c v):Ext a u c v:=
 ⟨(k.mono (by simp)).trans h.only (fun g hg=>.inl hg),fun g hg=>(h.src g hg).imp id fun h1=>Nat.le_trans k.size h1⟩
theorem Ext.fresh {w0 a b:World} {base:Nat} {u v:Value} {l:Sec} (h0:Only [] w0 a) (hu:Own a base u l) (hb:w0.heap.size≤base) (h:Ext a u b v):Only [] w0 b:=
 h0.trans h.only (fun g hg=>.inr (by have:=(hu.lt (k:=g) (by simpa using hg)).1;omega))
section
variable {w:World} {ops:Array Oper} {rest:List Oper} {o:Oper} {a:Act} {Q:Exit→Act→World→Prop}
end
theorem Bytes.part {w:World} {a:Option Addr} {n cap:Nat} {l:Sec} (h:Bytes w (.slice a n cap) l) (i j cap':Nat) (b:Option Addr) (hb:∀ g off,a=some ⟨g,off,none⟩→i < j→b=some ⟨g,off+i,none⟩) (hj:j≤l.length) :
  Bytes w (.slice b (j - i) cap') ((l.take j).drop i):=by
 obtain ⟨a',cap'',e,hc⟩:=h;injection e with e1 e2 e3
 subst e1;refine ⟨b,cap',by simp;omega,fun k c hk=>?_⟩;rw [List.getElem?_drop] at hk;have hlt:=(List.getElem?_eq_some_iff.1 hk).1;rw [List.length_take] at hlt;rw [List.getElem?_take_of_lt (by omega)] at hk;obtain ⟨g,off,ha,hcell⟩:=hc _ c hk;exact ⟨g,off+i,hb g off ha (by omega),by rw [Nat.add_assoc];exact hcell⟩
def Fit (v:Value):Prop:=∀ a n c,v=.slice a n c→n≤c∧c≤maxLen
theorem Own.fit {w:World} {base:Nat} {v:Value} {l:Sec} (h:Own w base v l):Fit v:=by
 intro a n c e;subst e;rcases h.2 with ⟨e,_⟩ | ⟨g,cap,cur,e,_,_,h1,h2,_⟩
 ·cases e;exact ⟨by omega,by omega⟩
 ·cases e;exact ⟨h1,h2⟩
def iv (xs:List Int):List Value:=xs.map (Value.int .i64)
theorem aB (xs:List Int):(iv xs).length=xs.length:=by simp [iv]
theorem qJ:(Tryz.prog.info? 3).map (fun i=>(i.zero,i.size,i.bytes))=some (some (.int .i64 0),1,8):=by kernel_rfl
section
variable {w:World} {ops:Array Oper} {rest:List Oper} {o:Oper} {a:Act} {Q:Exit→Act→World→Prop}
end
theorem owns_kept {w w':World} {base n:Nat} {v:Value} {xs:List Value} {S:List Nat} (h:w.ownsRow base 3 1 v n xs) (ho:Only S w w') (hs:∀ k∈S,v.ownBlock≠some k):w'.ownsRow base 3 1 v n xs:=by
 refine ⟨h.1,?_⟩;rcases h.2 with hn | ⟨g,cap,cur,rfl,hb,hg,r⟩
 ·exact .inl hn
 ·exact .inr ⟨g,cap,cur,rfl,hb,ho.heap hg (fun e=>hs g e rfl),r⟩
theorem owns_ints {w:World} {base:Nat} {v:Value} {xs:List Int} (h:w.ownsRow base 3 1 v xs.length (iv xs)) (hw:∀ x∈xs,(Lit.int .i64 x).wf=true):IntsV w v xs:=by
 rcases h.2 with ⟨rfl,hn⟩ | ⟨g,cap,cur,rfl,hb,hg,hc,_,_,ht⟩
 ·obtain rfl:xs=[]:=List.eq_nil_of_length_eq_zero hn;exact ⟨none,0,rfl,fun i k hi=>by simp at hi⟩
 ·refine ⟨_,cap,rfl,fun i k hi=>⟨hw k (List.mem_of_getElem? hi),g,0,rfl,?_⟩⟩;rw [Nat.zero_add,ab i hg];have h1:(iv xs)[i]?=some (Value.int .i64 k):=by simp [iv,hi]
  rw [← ht,Nat.mul_one] at h1;have hlt:i < xs.length:=(List.getElem?_eq_some_iff.1 hi).1;rw [List.getElem?_take_of_lt hlt] at h1;simpa using h1
section
structure RowT (α:Type) where
 t:TypeId
 ts:TypeId
 k:Nat
 en:α→List Value
 z:Value
 nb:Nat
 hts:Tryz.prog.underlying ts=some (.slice t)
 hinf:(Tryz.prog.info? t).map (fun i=>(i.zero,i.size,i.bytes))=some (some z,k,nb)
 hz:z.cells.size=k
 h0:0 < k
 hnb:nb≤200
 hk:∀ x,(en x).length=k
 h1:∀ x,∀ u∈en x,u.oneCell'=true
variable {α:Type} (R:RowT α)
def RowT.cs (l:List α):List Value:=l.flatMap R.en
theorem RowT.cs_nil:R.cs []=[]:=rfl
theorem RowT.cs_cons (x:α) (l:List α):R.cs (x :: l)=R.en x++R.cs l:=by simp [RowT.cs]
theorem RowT.cs_append (l m:List α):R.cs (l++m)=R.cs l++R.cs m:=by simp [RowT.cs]
theorem RowT.cs_length (l:List α):(R.cs l).length=l.length*R.k:=by
 induction l with
 | nil=>simp [RowT.cs]
 | cons x l ih=>rw [R.cs_cons,List.length_append,R.hk,ih,List.length_cons,Nat.succ_mul];omega
theorem RowT.cs_one (l:List α):∀ u∈R.cs l,u.oneCell'=true:=by
 intro u hu;obtain ⟨x,_,hx⟩:=List.mem_flatMap.1 hu;exact R.h1 x u hx
theorem RowT.cs_get:∀ (l:List α) (i:Nat) (x:α) (j:Nat),l[i]?=some x→j < R.k→(R.cs l)[i*R.k+j]?=(R.en x)[j]?
 | [],i,x,j,h,_=>by simp at h
 | y :: l,0,x,j,h,hj=>by
  simp at h;subst h;rw [R.cs_cons,Nat.zero_mul,Nat.zero_add,List.getElem?_append_left (by rw [R.hk];exact hj)]
 | y :: l,i+1,x,j,h,hj=>by
  rw [R.cs_cons,List.getElem?_append_right (by rw [R.hk,Nat.succ_mul];omega),R.hk,show (i+1)*R.k+j - R.k=i*R.k+j by rw [Nat.succ_mul];omega];exact RowT.cs_get l i x j (by simpa using h) hj
theorem RowT.cs_set (l:List α) (i:Nat) (x y:α) (j:Nat) (u:Value) (hx:l[i]?=some x) (hj:j < R.k) (hy:R.en y=(R.en x).set j u):R.cs (l.set i y)=(R.cs l).set (i*R.k+j) u:=by
 induction l generalizing i with
 | nil=>simp at hx
 | cons a l ih=>
  cases i with
  | zero=>
   simp at hx;subst hx;rw [List.set_cons_zero,R.cs_cons,R.cs_cons,Nat.zero_mul,Nat.zero_add,List.set_append_left _ _ (by rw [R.hk];exact hj),hy]
  | succ i=>
   rw [List.set_cons_succ,R.cs_cons,R.cs_cons,ih i (by simpa using hx),List.set_append_right _ _ (by rw [R.hk,Nat.succ_mul];omega),R.hk,show (i+1)*R.k+j - R.k=i*R.k+j by rw [Nat.succ_mul];omega]
def OR (w:World) (base:Nat) (v:Value) (l:List α):Prop:=w.ownsRow base R.t R.k v l.length (R.cs l)
section
variable {R} {w w':World} {base:Nat} {v:Value} {l:List α}
theorem OR.nil (w:World) (base:Nat):OR R w base (.slice none 0 0) []:=World.ownsRow_nil w base _ _
theorem OR.kept {S:List Nat} (h:OR R w base v l) (ho:Only S w w') (hs:∀ k∈S,v.ownBlock≠some k):OR R w' base v l:=by
 refine ⟨h.1,?_⟩;rcases h.2 with hn | ⟨g,cap,cur,rfl,hb,hg,r⟩
 ·exact .inl hn
 ·exact .inr ⟨g,cap,cur,rfl,hb,ho.heap hg (fun e=>hs g e rfl),r⟩
theorem OR.quiet (h:OR R w base v l) (ho:Only [] w w'):OR R w' base v l:=h.kept ho (by simp)
theorem OR.mono {base':Nat} (h:OR R w base v l) (hb:base'≤base):OR R w base' v l:=by
 refine ⟨h.1,?_⟩;rcases h.2 with hn | ⟨g,cap,cur,rfl,hb',r⟩
 ·exact .inl hn
 ·exact .inr ⟨g,cap,cur,rfl,by omega,r⟩
theorem OR.lt (h:OR R w base v l) {k:Nat} (hk:v.ownBlock=some k):base≤k∧k < w.heap.size:=World.ownsRow.lt h k hk
theorem OR.shape (h:OR R w base v l):∃ a cap,v=.slice a l.length cap:=by
 rcases h.2 with ⟨rfl,hn⟩ | ⟨g,cap,cur,rfl,hb,hg,r⟩
 ·exact ⟨none,0,by rw [hn]⟩
 ·exact ⟨_,_,rfl⟩
theorem OR.ty {k:Nat} {t:TypeId} {c:Array Value} {fr:Nat×Nat} (h:OR R w base v l) (hk:v.ownBlock=some k) (hg:w.heap[k]?=some (.cells c t fr)):t=R.t:=by
 rcases h.2 with ⟨rfl,_⟩ | ⟨g,cap,cur,rfl,hb,hg',r⟩
 ·cases hk
 ·obtain rfl:g=k:=by simpa [Value.ownBlock] using hk
  rw [hg'] at hg;simp only [Option.some.injEq,Obj.cells.injEq] at hg;exact hg.2.1.symm
theorem OR.at_ (h:OR R w base v l) {i:Nat} {x:α} (hi:l[i]?=some x):∃ g cap,v=.slice (some ⟨g,0,none⟩) l.length cap∧base≤g∧g < w.heap.size∧(∀ j u,(R.en x)[j]?=some u→w.cell? ⟨g,i*R.k+j,none⟩=some u)∧∀ j,w.frozen? ⟨g,j,none⟩=false:=by
 have hlt:i < l.length:=(List.getElem?_eq_some_iff.1 hi).1;rcases h.2 with ⟨rfl,hn⟩ | ⟨g,cap,cur,rfl,hb,hg,hc,hm,hz,ht⟩
 ·omega
 ·refine ⟨g,cap,rfl,hb,ak hg,fun j u hj=>?_,fun j=>ae j hg⟩;have hjk:j < R.k:=by have:=(List.getElem?_eq_some_iff.1 hj).1;rwa [R.hk] at this
  have hlt2:i*R.k+j < l.length*R.k:=by have:(i+1)*R.k≤l.length*R.k:=Nat.mul_le_mul_right _ hlt;rw [Nat.succ_mul] at this;omega
  rw [ab _ hg];have h1:=R.cs_get l i x j hi hjk;rw [← ht,List.getElem?_take_of_lt hlt2,hj] at h1;simpa using h1
theorem OR.set {g n cap:Nat} (h:OR R w base (.slice (some ⟨g,0,none⟩) n cap) l) {i:Nat} {x y:α} {j:Nat} {u:Value} (hx:l[i]?=some x) (hj:j < R.k) (hy:R.en y=(R.en x).set j u):OR R (w.setCell ⟨g,i*R.k+j,none⟩ u) base (.slice (some ⟨g,0,none⟩) n cap) (l.set i y):=by
 obtain ⟨a,c,e⟩:=h.shape;injection e with _ e1 _
 subst e1;have:=(World.ownsRow.stored h (i*R.k+j) u).1;unfold OR;rw [R.cs_set l i x y j u hx hj hy,List.length_set];exact this
theorem OR.made (w:World) (x:α) (cs:Array Value) (hc:cs=(R.en x).toArray) (hb:base≤w.heap.size):OR R (w.alloc (.cells cs R.t)) base (.slice (some ⟨w.heap.size,0,none⟩) 1 1) [x]:=by
 subst hc;refine ⟨by rw [R.cs_length],.inr ⟨w.heap.size,1,_,rfl,hb,ag w _,Nat.le_refl _,by unfold maxLen;omega,by simp [R.hk],?_⟩⟩;rw [R.cs_cons,R.cs_nil,List.append_nil,List.take_of_length_le (by simp [R.hk])]
end
def RV (w:World) (v:Value) (l:List α):Prop:=∃ a cap,v=.slice a l.length cap∧(l=[]∨∃ g off,a=some ⟨g,off,none⟩∧∀ (i:Nat) (x:α),l[i]?=some x→∀ j u,(R.en x)[j]?=some u→w.cell? ⟨g,off+i*R.k+j,none⟩=some u)
section
variable {R} {w w':World} {base:Nat} {v:Value} {l m:List α}
theorem OR.rv (h:OR R w base v l):RV R w v l:=by
 obtain ⟨a,cap,rfl⟩:=h.shape;refine ⟨a,cap,rfl,?_⟩
 by_cases h0:l=[]
 ·exact .inl h0
 ·have hp:0 < l.length:=List.length_pos_iff.2 h0;obtain ⟨g,cap',e,-,-,-⟩:=h.at_ (i:=0) (List.getElem?_eq_getElem hp);injection e with e1 _ _
  subst e1;refine .inr ⟨g,0,rfl,fun i x hi j u hj=>?_⟩;obtain ⟨g',cap'',e,-,-,hc,-⟩:=h.at_ hi;injection e with e1 _ _
  injection e1 with e1
  injection e1 with e1 _ _
  subst e1;rw [Nat.zero_add];exact hc j u hj
theorem RV.kept (h:RV R w v l) {S:List Nat} (ho:Only S w w') (hs:∀ a n c,v=.slice (some a) n c→a.block∉S):RV R w' v l:=by
 obtain ⟨a,cap,rfl,hx⟩:=h;refine ⟨a,cap,rfl,?_⟩;rcases hx with hx | ⟨g,off,rfl,hc⟩
 ·exact .inl hx
 ·exact .inr ⟨g,off,rfl,fun i x hi j u hj=>ac ho (hc i x hi j u hj) (show g∉S from hs ⟨g,off,none⟩ _ _ rfl)⟩
theorem RV.quiet (h:RV R w v l) (ho:Only [] w w'):RV R w' v l:=h.kept ho (by simp)
theorem RV.flat {g off n cap:Nat} (h:RV R w (.slice (some ⟨g,off,none⟩) n cap) m):∀ j u,(R.cs m)[j]?=some u→w.cell? ⟨g,off+j,none⟩=some u:=by
 obtain ⟨a,cap',e,hx⟩:=h;injection e with e1 e2 _
 subst e1 e2;intro j u hj;have hlt:=(List.getElem?_eq_some_iff.1 hj).1;rw [R.cs_length] at hlt;have hd:=Nat.div_add_mod j R.k;have hm:=Nat.mod_lt j R.h0;have hq:j / R.k < m.length:=Nat.div_lt_of_lt_mul (by rw [Nat.mul_comm];exact hlt);rcases hx with rfl | ⟨g',off',e,hc⟩
 ·simp at hq
 ·injection e with e
  injection e with e1 e2 _
  subst e1 e2;have e3:j / R.k*R.k+j % R.k=j:=by rw [Nat.mul_comm];exact hd
  have h1:=R.cs_get m (j / R.k) m[j / R.k] (j % R.k) (List.getElem?_eq_getElem hq) hm;rw [e3,hj] at h1;have h2:=hc (j / R.k) m[j / R.k] (List.getElem?_eq_getElem hq) (j % R.k) u h1.symm;rw [Nat.add_assoc,e3] at h2;exact h2
theorem fQ (ty:TypeId) (hown:OR R w base v l) (x:Value) (hx:RV R w x m) (hn:l.length+m.length≤1048576) (hb:base≤w.heap.size) :
  ∃ a cap w',(Builtin.append_ #[R.ts,R.ts] ty #[v,x]).run Tryz.prog w=.ok (.slice a (l.length+m.length) cap) w'∧OR R w' base (.slice a (l.length+m.length) cap) (l++m)∧Ext w v w' (.slice a (l.length+m.length) cap):=by
 obtain ⟨i,hi,hz⟩:=Option.map_eq_some_iff.1 R.hinf;simp only [Prod.mk.injEq] at hz;obtain ⟨z1,z2,z3⟩:=hz;have hx0:=hx;obtain ⟨ao,capx,rfl,hc⟩:=hx0
 by_cases h0:m.length=0
 ·obtain rfl:m=[]:=List.eq_nil_of_length_eq_zero h0;obtain ⟨a,cap,rfl⟩:=hown.shape;refine ⟨a,cap,w,iL (P:=Tryz.prog) base R.ts ty R.t i R.k R.hts hi _ _ _ hown ao capx,by simpa using hown,by simpa using Ext.refl w _⟩
 ·rcases hc with rfl | ⟨b,off,rfl,-⟩
  ·simp at h0
  obtain ⟨v',w',hr,k1,k2,_,k5⟩:=run_append_own_at (P:=Tryz.prog) w base R.ts ty R.t i R.z R.k R.nb R.hts hi z1 z2 z3 R.hz R.h0 v l.length (R.cs l) hown ⟨b,off,none⟩ m.length capx (R.cs m) (R.cs_length m) (fun j u hj=>by
    have:(⟨b,off,none⟩:Addr).add j=⟨b,off+j,none⟩:=by simp [Addr.add]
    rw [this]
    exact hx.flat j u hj) (R.cs_one m) (by unfold maxLen;omega) (by have:=Nat.mul_le_mul hn R.hnb;omega) hb
  have hsh:∃ a cap,v'=.slice a (l.length+m.length) cap:=by
   rcases k1.2 with ⟨_,hn⟩ | ⟨g,cap,cur,rfl,_⟩
   ·omega
   ·exact ⟨_,_,rfl⟩
  obtain ⟨a,cap,rfl⟩:=hsh;refine ⟨a,cap,w',hr,?_,Only.of_grown k2,fun g hg=>?_⟩
  ·unfold OR;rw [R.cs_append,List.length_append];exact k1
  ·rcases k5 with k5 | k5
   ·exact .inl (by rw [← k5];exact hg)
   ·rw [k5] at hg;exact .inr (Nat.le_of_eq (Option.some.inj hg))
theorem dz (x:α) (g cap:Nat) (h:∀ j u,(R.en x)[j]?=some u→w.cell? ⟨g,j,none⟩=some u):RV R w (.slice (some ⟨g,0,none⟩) 1 cap) [x]:=by
 refine ⟨_,cap,rfl,.inr ⟨g,0,rfl,fun i y hi j u hj=>?_⟩⟩;cases i with
 | zero=>
  simp at hi;subst hi;simp only [Nat.zero_mul,Nat.zero_add];exact h j u hj
 | succ i=>simp at hi
end
section
variable {R} {w:World} {ops:Array Oper} {rest:List Oper} {o:Oper} {a:Act} {Q:Exit→Act→World→Prop} {l m:List α}
theorem fm {K:Act→World→Prop} {E:Prop} (hg:o.guard=none) (s x:Operand) (hop:o.op=Op.call {callee:=Callee.builtin Builtin.append,args:=#[s,x],argTypes:=#[R.ts,R.ts] })
  (base:Nat) (v:Value) (l:List α) (hs:a.eval s=v) (hown:OR R w base v l) (xv:Value) (m:List α) (hx:a.eval x=xv) (hm:RV R w xv m) (n:Nat) (hn:l.length+m.length=n) (lm:List α) (hlm:l++m=lm) (hl:n≤1048576) (hb:base≤w.heap.size)
  (hK:∀ a' cap w',OR R w' base (.slice a' n cap) lm→Ext w v w' (.slice a' n cap)→K (a.put o.dst (.slice a' n cap)) w') :
  if Region.wanted o (yielded ops a.tmps)=true then Oper.wp Tryz.prog o a w K Q else E:=by
 subst hn;subst hlm;have hw:Region.wanted o (yielded ops a.tmps)=true:=by simp [Region.wanted,hg]
 rw [if_pos hw];obtain ⟨a',cap,w',hrun,k1,k2⟩:=fQ o.type hown xv hm hl hb;unfold Oper.wp;simp [execOp,hop,resolve,invoke,builtin,hs,hx,hrun,Result.andThen];exact hK a' cap w' k1 k2
theorem az (hg:o.guard=none) (s x:Operand) (hop:o.op=Op.call {callee:=Callee.builtin Builtin.append,args:=#[s,x],argTypes:=#[R.ts,R.ts] })
  (base:Nat) (v:Value) (l:List α) (hs:a.eval s=v) (hown:OR R w base v l) (xv:Value) (m:List α) (hx:a.eval x=xv) (hm:RV R w xv m) (n:Nat) (hn:l.length+m.length=n) (lm:List α) (hlm:l++m=lm) (hl:n≤1048576) (hb:base≤w.heap.size)
  (hK:∀ a' cap w',OR R w' base (.slice a' n cap) lm→Ext w v w' (.slice a' n cap)→wpList Tryz.prog ops Q rest (a.put o.dst (.slice a' n cap)) w'):wpList Tryz.prog ops Q (o :: rest) a w:=by
 subst hn;subst hlm;refine wpList_plain hg fun K' hK'=>?_;obtain ⟨a',cap,w',hrun,k1,k2⟩:=fQ o.type hown xv hm hl hb;unfold Oper.wp;simp [execOp,hop,resolve,invoke,builtin,hs,hx,hrun,Result.andThen];exact hK' _ _ (hK a' cap w' k1 k2)
end
end
end Go.Proofs.YtcebchffcmpfeaaGreat
