import Derived.Test.YtcebchffcmpfeaaGreatZbt
namespace Go.Proofs.YtcebchffcmpfeaaGreat
set_option linter.unusedVariables false
set_option linter.unusedSimpArgs false
open Go.RowKit Go.Maps
def xW:List Sec→Nms→Nat
 | [],_=>0
 | z :: l,m=>(if (m z).isSome=true then 0 else 1)+xW l m
theorem qj (m:Nms) (k:Sec) (v:Int):∀ L,xW L (dk m k v)≤xW L m
 | []=>Nat.le_refl _
 | z :: l=>by
  have:=qj m k v l;unfold xW
  by_cases e:z=k
  ·subst e;have h:(dk m z v z).isSome=true:=by unfold dk;rw [if_pos rfl];rfl
   rw [if_pos h];split<;>omega
  ·rw [vZ e];omega
theorem wm {m:Nms} {k:Sec} (v:Int) (hm:(m k).isSome=false):∀ {L:List Sec},k∈L→xW L (dk m k v)+1≤xW L m
 | z :: l,h=>by
  unfold xW
  by_cases e:z=k
  ·subst e;have h1:(dk m z v z).isSome=true:=by unfold dk;rw [if_pos rfl];rfl
   rw [if_pos h1,hm];have:=qj m z v l;simp;omega
  ·rw [vZ e];have:=wm v hm (L:=l) (by simpa [Ne.symm e] using h);omega
theorem NMap.tight {w:World} {b n cnt:Nat} {e:TypeId} {m:Nms} (h:NMap w b e n cnt m):NMap w b e cnt cnt m:=by
 obtain ⟨D,⟨es,clock,h1,h2,h3,h4⟩,hr,hs⟩:=h;refine ⟨D,⟨es,clock,h1,h2,?_,h4⟩,hr,hs⟩;rw [← hs,h4];show es.size≤List.length _;rw [length_read];exact Nat.le_refl _
def runA (n:Int) (c:List Int) (b:Nat):Array Value:=(iv (n :: c)++[Value.map (some b)]).toArray
theorem wn {n:Int} {c:List Int} {b i:Nat} {z:Int} (h:c[i]?=some z):(runA n c b)[1+i]?=some (.int .i64 z):=by
 have hi:i < c.length:=(List.getElem?_eq_some_iff.1 h).1;have hlt:1+i < (iv (n :: c)).length:=by rw [aB,List.length_cons];omega
 unfold runA;rw [List.getElem?_toArray,List.getElem?_append_left hlt];have:(iv (n :: c))[1+i]?=((n :: c)[1+i]?).map (Value.int .i64):=by unfold iv;rw [List.getElem?_map]
 rw [this,Nat.add_comm,List.getElem?_cons_succ,h];rfl
theorem th {n:Int} {c:List Int} {b:Nat} (h:c.length=60):(runA n c b)[61]?=some (.map (some b)):=by
 have hl:(iv (n :: c)).length=61:=by rw [aB,List.length_cons,h]
 unfold runA;rw [List.getElem?_toArray,List.getElem?_append_right (by omega),hl];rfl
theorem runA_set {n:Int} {c:List Int} {b i:Nat} (hi:i < c.length) (v:Int):(runA n c b).setIfInBounds (1+i) (.int .i64 v)=runA n (c.set i v) b:=by
 have hlt:1+i < (iv (n :: c)).length:=by rw [aB,List.length_cons];omega
 unfold runA;rw [List.setIfInBounds_toArray,List.set_append_left _ _ hlt];congr 2;have:(iv (n :: c)).set (1+i) (Value.int .i64 v)=iv ((n :: c).set (1+i) v):=by simp [iv,List.map_set]
 rw [this,Nat.add_comm,List.set_cons_succ]
structure RM (w:World) (g b:Nat) (L:List Sec) (C:Nat) (n:Int) (s:PS):Prop where
 row:w.heap[g]?=some (.cells (runA n s.c b) 180 (0,0))
 names:∃ cnt,NMap w b 3 cnt cnt s.m∧cnt+xW L s.m≤C
 sw:SW s
 lim:C≤60000
section
variable {w w':World} {g b:Nat} {L:List Sec} {C:Nat} {n:Int} {s:PS}
theorem RM.kept {S:List Nat} (h:RM w g b L C n s) (ho:Only S w w') (hg:g∉S) (hb:b∉S):RM w' g b L C n s:=by
 obtain ⟨cnt,h1,h2⟩:=h.names;exact ⟨ho.heap h.row hg,⟨cnt,h1.kept ho hb,h2⟩,h.sw,h.lim⟩
theorem RM.quiet (h:RM w g b L C n s) (ho:Only [] w w'):RM w' g b L C n s:=h.kept ho (by simp) (by simp)
theorem RM.g_lt (h:RM w g b L C n s):g < w.heap.size:=ak h.row
theorem RM.ne (h:RM w g b L C n s):b≠g:=by obtain ⟨cnt,h1,_⟩:=h.names;exact h1.ne h.row
theorem RM.map (h:RM w g b L C n s):w.cell? ⟨g,61,none⟩=some (.map (some b)):=by rw [ab 61 h.row];exact th h.sw.1.len
theorem RM.cell (h:RM w g b L C n s) {i:Nat} (hi:i < 60):w.cell? ⟨g,1+i,none⟩=some (.int .i64 (s.c.getD i 0)):=by
 have hl:i < s.c.length:=by rw [h.sw.1.len];exact hi
 rw [ab _ h.row];refine wn ?_;rw [List.getD_eq_getElem?_getD,List.getElem?_eq_getElem hl];rfl
theorem RM.free (h:RM w g b L C n s) (i:Nat):w.frozen? ⟨g,i,none⟩=false:=ae i h.row
theorem RM.set (h:RM w g b L C n s) {i:Nat} (hi:i < 60) {v:Int} (hv:n64 v):RM (w.setCell ⟨g,1+i,none⟩ (.int .i64 v)) g b L C n ⟨s.c.set i v,s.m⟩:=by
 have ho:Only [g] w (w.setCell ⟨g,1+i,none⟩ (.int .i64 v)):=oc;obtain ⟨cnt,h1,h2⟩:=h.names;have hl:i < s.c.length:=by rw [h.sw.1.len];exact hi
 have hr:=af (i:=1+i) (.int .i64 v) h.row;rw [runA_set hl] at hr;exact ⟨hr,⟨cnt,h1.kept ho (by simpa using h.ne),h2⟩,⟨h.sw.1.set i hv,h.sw.2⟩,h.lim⟩
theorem RM.put {cnt:Nat} {k:Sec} {v:Int} (h:RM w g b L C n s) (hk:k∈L) (hv:n64 v) (hc:cnt+xW L s.m≤C)
  (hm:NMap w' b 3 (cnt+1) (if (s.m k).isSome=true then cnt else cnt+1) (dk s.m k v)) (ho:Only [b] w w'):RM w' g b L C n ⟨s.c,dk s.m k v⟩:=by
 refine ⟨ho.heap h.row (by simpa using h.ne.symm),⟨_,hm.tight,?_⟩,⟨h.sw.1,h.sw.2.put k hv⟩,h.lim⟩;show (if (s.m k).isSome=true then cnt else cnt+1)+xW L (dk s.m k v)≤C;cases hq:(s.m k).isSome with
 | true=>
  rw [if_pos rfl];have:=qj s.m k v L;omega
 | false=>
  rw [if_neg (by decide)];have:=wm v hq hk;omega
theorem Get_any {c:List Int} (hc:CW c) (n k:Int) (hk:n64 k) (w:World) :
  Calls Tryz.prog 106 #[.agg (ivA (n :: c)),.int .i64 k] w fun e w'=>e=.returned (.tuple #[.int .i64 (gU c k),.bool (decide (inC k))])∧Only [] w w':=by
 by_cases h:inC k
 ·have hl:k.toNat < c.length:=by rw [hc.len];omega
  have e:gU c k=c[k.toNat]:=by unfold gU;rw [if_pos h,List.getD_eq_getElem?_getD,List.getElem?_eq_getElem hl];rfl
  have K:=Get_yes n c k.toNat c[k.toNat] w (by omega) (List.getElem?_eq_getElem hl);rw [show ((k.toNat:Nat):Int)=k by omega] at K;rw [e,decide_eq_true h];exact K
 ·have e:gU c k=0:=by unfold gU;rw [if_neg h]
  rw [e,decide_eq_false h];exact Get_no (n :: c) k w hk.1 hk.2 h
end
section
variable {w w':World} {g b:Nat} {L:List Sec} {C:Nat} {n:Int} {s:PS}
end
structure At5 (w:World) (gr o:Nat) (k n:Int) (sn:ByteArray) (a:Option Addr) (l c:Nat) (p:Int):Prop where
 c0:w.cell? ⟨gr,o,none⟩=some (.int .i64 k)
 c1:w.cell? ⟨gr,o+1,none⟩=some (.int .i64 n)
 c2:w.cell? ⟨gr,o+2,none⟩=some (.string sn)
 c3:w.cell? ⟨gr,o+3,none⟩=some (.slice a l c)
 c4:w.cell? ⟨gr,o+4,none⟩=some (.int .i64 p)
theorem At5.kept {w w':World} {gr o:Nat} {k n:Int} {sn:ByteArray} {a:Option Addr} {l c:Nat} {p:Int} {S:List Nat} (h:At5 w gr o k n sn a l c p) (ho:Only S w w') (hs:gr∉S):At5 w' gr o k n sn a l c p:=
 ⟨ac ho h.c0 hs,ac ho h.c1 hs,ac ho h.c2 hs,ac ho h.c3 hs,ac ho h.c4 hs⟩
theorem EsO.at5 {w:World} {B:Nat→Prop} {gr:Nat} {xs:List E} (h:EsO w B gr 0 xs) {j:Nat} {e:E} (hj:xs[j]?=some e) :
  ∃ k n sn a l c p,EV w B e [.int .i64 k,.int .i64 n,.string sn,.slice a l c,.int .i64 p]∧At5 w gr (j*5) k n sn a l c p:=by
 obtain ⟨cs,hev,hcs⟩:=h j e hj;obtain ⟨k1,n1,nm1,ys1,p1⟩:=e;have hev':=hev;unfold EV at hev';obtain ⟨a1,cap1,rfl,-,-⟩:=hev';refine ⟨_,_,_,_,_,_,_,hev,?_,?_,?_,?_,?_⟩
 ·have:=hcs 0 _ rfl;rwa [Nat.zero_add] at this
 ·have:=hcs 1 _ rfl;rwa [Nat.zero_add] at this
 ·have:=hcs 2 _ rfl;rwa [Nat.zero_add] at this
 ·have:=hcs 3 _ rfl;rwa [Nat.zero_add] at this
 ·have:=hcs 4 _ rfl;rwa [Nat.zero_add] at this
theorem exV_mk (c:List Int) (m:Nms) (k n:Int) (nm:Sec) (xs:List E) (p:Int):exV c m (.mk k n nm xs p)=exO c m k n nm (tX c m xs):=by conv=>lhs;unfold exV
theorem mf (c:List Int) (m:Nms) (x:E) (xs:List E):(tX c m (x :: xs)).getD 0 0=exV c m x:=by unfold tX;rfl
theorem exVs_two (c:List Int) (m:Nms) (x y:E) (xs:List E):(tX c m (x :: y :: xs)).getD 1 0=exV c m y:=by unfold tX;unfold tX;rfl
end Go.Proofs.YtcebchffcmpfeaaGreat
