import Derived.Maps.OwnSet
import Derived.StringKeys
import Derived.Sort.KeysCollected
import Derived.Test.YtcebchffcmpfeaaGreatCbt
import Derived.Deep.Cut
namespace Go.Proofs.YtcebchffcmpfeaaGreat
set_option linter.unusedVariables false
set_option linter.unusedSimpArgs false
set_option maxRecDepth 100000
set_option maxHeartbeats 16000000
open Go.RowKit Go.Maps
structure NReads (D:DataW Unit) (m:Sec→Option Int):Prop where
 has:∀ s,Maps.has D (.string s)=(m s).isSome
 at_:∀ s c,m s=some c→∀ z,D.atKey (.string s) z=.lit (.int .i64 c)
 wf:∀ s c,m s=some c→(Lit.int .i64 c).wf=true
def NMap (w:World) (b:Nat) (e:TypeId) (n cnt:Nat) (m:Sec→Option Int):Prop:=
 ∃ D:DataW Unit,w.ownsMap Tryz.prog 9 (plainElem Tryz.prog e) b n D∧NReads D m∧Maps.size D=cnt
def dk (m:Sec→Option Int) (k:Sec) (c:Int):Sec→Option Int:=fun z=>if z=k then some c else m z
def xV (m:Sec→Option Int) (k:Sec):Sec→Option Int:=fun z=>if z=k then none else m z
theorem qQ {a b:Sec} (h:a≠b):(Lit.string a)≠(Lit.string b):=fun e=>h (by cases e;rfl)
theorem jk (k:Sec):WideAt.IsKeyLit (Lit.string k):=by simp [WideAt.IsKeyLit]
theorem fA:Keyed Tryz.prog 9:=string_keyed Tryz.underlying9
theorem qR {s:Sec} (hs:s.length≤65536):keyOf Tryz.prog 9 (.string (aj s))=some (.string s):=by
 have:=WideMaps.keyOf_string_mk (P:=Tryz.prog) (k:=9) Tryz.underlying9 (s:=aj s) (by unfold maxLen;simp [aj,ByteArray.size];omega);rw [this];simp [aj]
section
variable {w w':World} {b n cnt:Nat} {e t:TypeId} {m:Sec→Option Int}
theorem NMap.lt (h:NMap w b e n cnt m):b < w.heap.size:=by
 obtain ⟨D,ho,_⟩:=h;exact ho.lt
theorem NMap.kept {S:List Nat} (h:NMap w b e n cnt m) (ho:Only S w w') (hb:b∉S):NMap w' b e n cnt m:=by
 obtain ⟨D,h1,h2⟩:=h;have hlt:=h1.lt;obtain ⟨es,clock,hb',r⟩:=h1;exact ⟨D,⟨es,clock,(ho.block b hlt hb).trans hb',r⟩,h2⟩
theorem NMap.obj (h:NMap w b e n cnt m):∃ es clock,w.heap[b]?=some (.map es clock):=by
 obtain ⟨D,⟨es,clock,hb,_⟩,_⟩:=h;exact ⟨es,clock,hb⟩
theorem NMap.ne (h:NMap w b e n cnt m) {g:Nat} {cs:Array Value} {t:TypeId} {fr:Nat×Nat} (hg:w.heap[g]?=some (.cells cs t fr)):b≠g:=by
 obtain ⟨es,clock,hb⟩:=h.obj;intro e;rw [e,hg] at hb;cases hb
theorem NMap.mono (h:NMap w b e n cnt m) {n':Nat} (hn:n≤n'):NMap w b e n' cnt m:=by
 obtain ⟨D,h1,h2⟩:=h;exact ⟨D,h1.mono hn,h2⟩
theorem NMap.look (ht:Tryz.prog.underlying t=some (.map 9 e)) (he:Tryz.prog.underlying e=some (.int .i64)) (hz:∀ w,(zeroValue e).run Tryz.prog w=.ok (.int .i64 0) w) (h:NMap w b e n cnt m) {k:Sec} (hk:k.length≤65536) :
  (Instr.lookup t (.map (some b)) (.string (aj k)) true).run Tryz.prog w=.ok (.tuple #[.int .i64 ((m k).getD 0),.bool (m k).isSome]) w:=by
 obtain ⟨D,ho,hr,_⟩:=h;obtain ⟨v,ps,hrun,hv⟩:=ho.look_ok fA ht (hz w) (plainElem_int he (by decide)) (qR hk);obtain ⟨c,rfl,hc,hwc⟩:=plainElem_int_inv he hv;simp only [Prod.mk.injEq] at hc;rw [hrun,hr.has];cases hm:m k with
 | none=>
  have hh:=hr.has k;rw [hm] at hh;rw [Maps.atKey_of_not_has (by simpa using hh)] at hc;obtain ⟨hc,_⟩:=hc;cases hc;rfl
 | some l'=>
  rw [hr.at_ k l' hm] at hc;obtain ⟨hc,_⟩:=hc;cases hc;rfl
theorem NMap.len (ht:Tryz.prog.underlying t=some (.map 9 e)) (h:NMap w b e n cnt m) (ty:TypeId):(Builtin.len_ #[t] ty #[.map (some b)]).run Tryz.prog w=.ok (.int .i64 (cnt:Int)) w:=by
 obtain ⟨D,ho,_,rfl⟩:=h;exact ho.len ht ty
theorem NMap.store (ht:Tryz.prog.underlying t=some (.map 9 e)) (he:Tryz.prog.underlying e=some (.int .i64)) (h:NMap w b e n cnt m) (hn:n≤65536) {k:Sec} (hk:k.length≤65536) {c:Int} (hc:(Lit.int .i64 c).wf=true) :
  ∃ w',(Instr.mapUpdate t (.map (some b)) (.string (aj k)) (.int .i64 c)).run Tryz.prog w=.ok () w'∧NMap w' b e (n+1) (if (m k).isSome=true then cnt else cnt+1) (dk m k c)∧Only [b] w w':=by
 obtain ⟨D,ho,hr,hs⟩:=h;obtain ⟨w',hrun,ho',hg⟩:=ho.update fA ht (by unfold maxLen;omega) (qR hk) (plainElem_int he hc);have htd:=ho.tidy fA;refine ⟨w',hrun,⟨_,ho',⟨fun z=>?_,fun z l' hz zd=>?_,fun z l' hz=>?_⟩,?_⟩,Only.of_grown hg⟩
 ·by_cases e1:z=k
  ·subst e1;rw [Maps.has_put_same htd.isMap (jk z)];simp [dk]
  ·rw [Maps.has_put_other (qQ e1),hr.has];simp [dk,e1]
 ·by_cases e1:z=k
  ·subst e1;rw [Maps.atKey_put_same htd.isMap (jk z)];simp only [dk,if_true,Option.some.injEq] at hz;rw [hz]
  ·rw [Maps.atKey_put_other (qQ e1)];exact hr.at_ z l' (by simpa [dk,e1] using hz) zd
 ·by_cases e1:z=k
  ·subst e1;simp only [dk,if_true,Option.some.injEq] at hz;rw [← hz];exact hc
  ·exact hr.wf z l' (by simpa [dk,e1] using hz)
 ·rw [Maps.size_put htd,hr.has,hs]
theorem NMap.drop (ht:Tryz.prog.underlying t=some (.map 9 e)) (h:NMap w b e n cnt m) {k:Sec} (hk:k.length≤65536) (ty:TypeId) :
  ∃ w' cnt',(Builtin.delete_ #[t,9] ty #[.map (some b),.string (aj k)]).run Tryz.prog w=.ok (.tuple #[]) w'∧NMap w' b e n cnt' (xV m k)∧Only [b] w w':=by
 obtain ⟨D,ho,hr,hs⟩:=h;obtain ⟨w',hrun,ho',hg⟩:=ho.drop fA ht (qR hk) ty;refine ⟨w',_,hrun,⟨_,ho',⟨fun z=>?_,fun z l' hz zd=>?_,fun z l' hz=>?_⟩,rfl⟩,Only.of_grown hg.grown⟩
 ·by_cases e1:z=k
  ·subst e1;rw [Maps.has_del_same];simp [xV]
  ·rw [Maps.has_del_other (qQ e1),hr.has];simp [xV,e1]
 ·by_cases e1:z=k
  ·subst e1;simp [xV] at hz
  ·rw [Maps.atKey_del_other (qQ e1)];exact hr.at_ z l' (by simpa [xV,e1] using hz) zd
 ·by_cases e1:z=k
  ·subst e1;simp [xV] at hz
  ·exact hr.wf z l' (by simpa [xV,e1] using hz)
theorem mQ:NReads (.map []) (fun _=>none):=⟨fun _=>rfl,fun _ _ h=>by simp at h,fun _ _ h=>by simp at h⟩
theorem NMap.made (w:World) (e:TypeId):NMap (w.alloc (.map #[] 0)) w.heap.size e 0 0 (fun _=>none):=⟨_,World.ownsMap_made w Tryz.prog 9 _,mQ,rfl⟩
def NRange (w:World) (b r:Nat) (e:TypeId) (m:Sec→Option Int) (left:Sec→Bool) (cnt:Nat):Prop:=
 ∃ (n:Nat) (D:DataW Unit) (lf:Lit→Bool),w.ranges Tryz.prog 9 (plainElem Tryz.prog e) b r n D lf cnt∧NReads D m∧∀ k,lf (.string k)=left k
theorem NRange.kept {S:List Nat} {r:Nat} {left:Sec→Bool} (h:NRange w b r e m left cnt) (ho:Only S w w') (hb:b∉S) (hr:r∉S):NRange w' b r e m left cnt:=by
 obtain ⟨n,D,lf,h1,h2,h3⟩:=h;have hl1:=h1.owns.lt;have hl2:=h1.lt;obtain ⟨es,clock,since,seen,c0,hb',F,hs,hD,hr',rest⟩:=h1;exact ⟨n,D,lf,⟨es,clock,since,seen,c0,(ho.block b hl1 hb).trans hb',F,hs,hD,(ho.block r hl2 hr).trans hr',rest⟩,h2,h3⟩
theorem NRange.left_eq {r:Nat} {left:Sec→Bool} (h:NRange w b r e m left cnt):w.rangeLeft b r=cnt:=by
 obtain ⟨n,D,lf,h1,_,_⟩:=h;exact h1.left_eq
theorem NRange.ne {r:Nat} {left:Sec→Bool} (h:NRange w b r e m left cnt):r≠b:=by
 obtain ⟨n,D,lf,h1,_,_⟩:=h;exact h1.ne
theorem NRange.lt {r:Nat} {left:Sec→Bool} (h:NRange w b r e m left cnt):r < w.heap.size:=by
 obtain ⟨n,D,lf,h1,_,_⟩:=h;exact h1.lt
theorem NRange.iter {r:Nat} {left:Sec→Bool} (h:NRange w b r e m left cnt):∃ m' s x c,w.heap[r]?=some (.mapIter m' s x c):=by
 obtain ⟨n,D,lf,⟨es,clock,since,seen,c0,_,_,_,_,hr,_⟩,_,_⟩:=h;exact ⟨_,_,_,_,hr⟩
theorem NMap.range (ht:Tryz.prog.underlying t=some (.map 9 e)) (h:NMap w b e n cnt m) :
  ∃ w' cnt',(Instr.range t (.map (some b))).run Tryz.prog w=.ok (.pointer (some ⟨w.heap.size,0,none⟩)) w'∧NRange w' b w.heap.size e m (fun k=>(m k).isSome) cnt'∧Only [] w w'∧w'.heap.size=w.heap.size+1:=by
 obtain ⟨D,ho,hr,_⟩:=h;obtain ⟨w',hrun,h1,h2,h3⟩:=ho.range fA ht;exact ⟨w',_,hrun,⟨n,D,_,h1,hr,hr.has⟩,Only.of_grown h2,h3⟩
theorem NRange.next {r:Nat} {left:Sec→Bool} (he:Tryz.prog.underlying e=some (.int .i64)) (h:NRange w b r e m left cnt) (ty:TypeId) :
  (cnt=0∧(∀ k,left k=false)∧(Instr.next (.pointer (some ⟨r,0,none⟩)) false ty).run Tryz.prog w=.ok (.tuple #[.bool false]) w)∨
  ∃ x c w' cnt',left x=true∧m x=some c∧(Instr.next (.pointer (some ⟨r,0,none⟩)) false ty).run Tryz.prog w=.ok (.tuple #[.bool true,.string (aj x),.int .i64 c]) w'∧
   NRange w' b r e m (fun z=>left z && z != x) cnt'∧cnt' < cnt∧Only [r] w w'∧w'.heap.size=w.heap.size∧(Instr.entry (.pointer (some ⟨r,0,none⟩))).run Tryz.prog w'=.ok (.tuple #[.string (aj x),.int .i64 c]) w':=by
 obtain ⟨n,D,lf,h1,h2,h3⟩:=h;rcases h1.next fA ty with ⟨h0,hl,hrun⟩ | ⟨key,v,kl,y,w',cnt',hkey,hlk,hv,hat,hrun,hrg,hlt,hgr,hsz,hen⟩
 ·exact .inl ⟨h0,fun k=>by rw [← h3];exact hl _,hrun⟩
 ·obtain ⟨x,rfl,rfl,hwx⟩:=Maps.keyOf_str Tryz.underlying9 hkey;obtain ⟨c,rfl,rfl,hwc⟩:=plainElem_int_inv he hv;have fL:∀ k,lf (.string k)=true→Maps.has D (.string k)=true:=fun k hk'=>by
   obtain ⟨es,clock,since,seen,c0,hb',F,hs,hD,hr',ho',hc',hl1,hl2,_⟩:=h1;obtain ⟨e0,he0,hk0⟩:=hl2 _ hk';rw [hD];exact List.any_eq_true.2 ⟨_,mem_sorted.2 (List.mem_map.2 ⟨e0,he0,rfl⟩),by rw [hk0];exact WideAt.sameKey_self (jk k)⟩
  have hm:m x=some c:=by
   have hh:=fL x hlk;rw [h2.has] at hh;obtain ⟨l',hl'⟩:=Option.isSome_iff_exists.1 hh;have e1:=h2.at_ x l' hl' (.lit (.bool true));rw [hat] at e1;cases e1;exact hl'
  refine .inr ⟨x,c,w',cnt',by rw [← h3];exact hlk,hm,hrun,⟨n,D,_,hrg,h2,fun k=>?_⟩,hlt,Only.of_grown hgr,hsz,hen⟩;show (lf (.string k) && !(Lit.string k).sameKey (.string x))=(left k && k != x)
  rw [h3];rfl
end
section
variable {w:World} {ops:Array Oper} {rest:List Oper} {o:Oper} {a:Act} {Q:Exit→Act→World→Prop} {b n cnt:Nat} {e t:TypeId} {m:Sec→Option Int}
theorem dD (hg:o.guard=none) (x y z:Operand) (hop:o.op=Op.mapUpdate t x y z) (ht:Tryz.prog.underlying t=some (.map 9 e)) (he:Tryz.prog.underlying e=some (.int .i64))
  (hm:a.eval x=.map (some b)) (h:NMap w b e n cnt m) (hn:n≤65536) (k:Sec) (hx:a.eval y=.string (aj k)) (hk:k.length≤65536) (c:Int) (hv:a.eval z=.int .i64 c) (hc:(Lit.int .i64 c).wf=true)
  (hK:∀ w',NMap w' b e (n+1) (if (m k).isSome=true then cnt else cnt+1) (dk m k c)→Only [b] w w'→wpList Tryz.prog ops Q rest (a.put o.dst undef) w'):wpList Tryz.prog ops Q (o :: rest) a w:=by
 refine wpList_plain hg fun K' hK'=>?_;obtain ⟨w',hrun,r1,r2⟩:=h.store ht he hn hk hc;unfold Oper.wp;simp [execOp,hop,hm,hx,hv,hrun,Result.andThen];exact hK' _ _ (hK w' r1 r2)
theorem bW {K:Act→World→Prop} {E:Prop} (hg:o.guard=none) (x y z:Operand) (hop:o.op=Op.mapUpdate t x y z) (ht:Tryz.prog.underlying t=some (.map 9 e)) (he:Tryz.prog.underlying e=some (.int .i64))
  (hm:a.eval x=.map (some b)) (h:NMap w b e n cnt m) (hn:n≤65536) (k:Sec) (hx:a.eval y=.string (aj k)) (hk:k.length≤65536) (c:Int) (hv:a.eval z=.int .i64 c) (hc:(Lit.int .i64 c).wf=true)
  (hK:∀ w',NMap w' b e (n+1) (if (m k).isSome=true then cnt else cnt+1) (dk m k c)→Only [b] w w'→K (a.put o.dst undef) w'):if Region.wanted o (yielded ops a.tmps)=true then Oper.wp Tryz.prog o a w K Q else E:=by
 have hw:Region.wanted o (yielded ops a.tmps)=true:=by simp [Region.wanted,hg]
 rw [if_pos hw];obtain ⟨w',hrun,r1,r2⟩:=h.store ht he hn hk hc;unfold Oper.wp;simp [execOp,hop,hm,hx,hv,hrun,Result.andThen];exact hK w' r1 r2
theorem fU (hg:o.guard=none) (x y:Operand) (hop:o.op=Op.call {callee:=Callee.builtin Builtin.delete,args:=#[x,y],argTypes:=#[t,9] }) (ht:Tryz.prog.underlying t=some (.map 9 e))
  (hm:a.eval x=.map (some b)) (h:NMap w b e n cnt m) (k:Sec) (hx:a.eval y=.string (aj k)) (hk:k.length≤65536)
  (hK:∀ w' cnt',NMap w' b e n cnt' (xV m k)→Only [b] w w'→wpList Tryz.prog ops Q rest (a.put o.dst (.tuple #[])) w'):wpList Tryz.prog ops Q (o :: rest) a w:=by
 refine wpList_plain hg fun K' hK'=>?_;obtain ⟨w',cnt',hrun,r1,r2⟩:=h.drop ht hk o.type;unfold Oper.wp;simp [execOp,hop,resolve,invoke,builtin,hm,hx,hrun,Result.andThen];exact hK' _ _ (hK w' cnt' r1 r2)
theorem gY (hg:o.guard=none) (x:Operand) (hop:o.op=Op.range t x) (ht:Tryz.prog.underlying t=some (.map 9 e))
  (hm:a.eval x=.map (some b)) (h:NMap w b e n cnt m)
  (hK:∀ w' r cnt',NRange w' b r e m (fun k=>(m k).isSome) cnt'→w.heap.size≤r→Only [] w w'→wpList Tryz.prog ops Q rest (a.put o.dst (.pointer (some ⟨r,0,none⟩))) w'):wpList Tryz.prog ops Q (o :: rest) a w:=by
 refine wpList_plain hg fun K' hK'=>?_;obtain ⟨w',cnt',hrun,r1,r2,_⟩:=h.range ht;unfold Oper.wp;simp [execOp,hop,hm,hrun,Result.andThen];exact hK' _ _ (hK w' _ cnt' r1 (Nat.le_refl _) r2)
theorem iO {r:Nat} {left:Sec→Bool} (hg:o.guard=none) (x:Operand) (hop:o.op=Op.next x false) (he:Tryz.prog.underlying e=some (.int .i64))
  (hm:a.eval x=.pointer (some ⟨r,0,none⟩)) (h:NRange w b r e m left cnt)
  (hDone:cnt=0→(∀ k,left k=false)→wpList Tryz.prog ops Q rest (a.put o.dst (.tuple #[.bool false])) w)
  (hMore:∀ x c w' cnt',left x=true→m x=some c→NRange w' b r e m (fun z=>left z && z != x) cnt'→cnt' < cnt→Only [r] w w'→
   (Instr.entry (.pointer (some ⟨r,0,none⟩))).run Tryz.prog w'=.ok (.tuple #[.string (aj x),.int .i64 c]) w'→wpList Tryz.prog ops Q rest (a.put o.dst (.tuple #[.bool true,.string (aj x),.int .i64 c])) w'):wpList Tryz.prog ops Q (o :: rest) a w:=by
 refine wpList_plain hg fun K' hK'=>?_;unfold Oper.wp;rcases h.next he o.type with ⟨h0,hl,hrun⟩ | ⟨x',l,w',cnt',h1,h2,hrun,h3,h4,h5,_,h7⟩
 ·simp [execOp,hop,hm,hrun,Result.andThen];exact hK' _ _ (hDone h0 hl)
 ·simp [execOp,hop,hm,hrun,Result.andThen];exact hK' _ _ (hMore x' l w' cnt' h1 h2 h3 h4 h5 h7)
end
structure CS where
 decl:List Sec
 known:Sec→Option Int
 ki:Nat→Int
 cells:Int
 flt:Option (Int×Int)
def CS.fail (s:CS) (c p:Int):CS:=match s.flt with | none=>{s with flt:=some (c,p) } | some _=>s
def CS.declare (s:CS) (nm:Sec) (of at_:Int):CS:=if nm∈s.decl then s.fail 9 at_ else if s.decl.length=16 then s.fail 15 at_ else {s with decl:=s.decl++[nm],known:=dk s.known nm of }
def idx (l:List Sec):Sec→Option Int:=fun s=>if s∈l then some (l.idxOf s:Int) else none
theorem lP {l:List Sec} {s:Sec}:(idx l s).isSome=decide (s∈l):=by
 unfold idx
 by_cases h:s∈l<;>simp [h]
theorem qS {l:List Sec} {k:Sec} (h:k∉l):idx (l++[k])=dk (idx l) k (l.length:Int):=by
 funext s;show (if s∈l++[k] then some ((l++[k]).idxOf s:Int) else none)=if s=k then some (l.length:Int) else if s∈l then some (l.idxOf s:Int) else none
 by_cases e:s=k
 ·subst e;rw [if_pos (by simp),if_pos rfl,List.idxOf_append,if_neg h];simp
 ·rw [if_neg e]
  by_cases hm:s∈l
  ·rw [if_pos (by simp [hm]),if_pos hm,List.idxOf_append,if_pos hm]
  ·rw [if_neg (by simp [hm,e]),if_neg hm]
def CS.forget (s:CS) (k:Int):CS:={s with known:=fun z=>match idx s.decl z with | some c=>if k≤c then none else s.known z | none=>s.known z }
def ed (d:List Sec) (known:Sec→Option Int) (k:Int) (left:Sec→Bool):Sec→Option Int:=fun z=>match idx d z with | some c=>if k≤c∧left z=false then none else known z | none=>known z
theorem r7 {d:List Sec} {known:Sec→Option Int} {k:Int} {left:Sec→Bool} (h:∀ z,left z=false):ed d known k left=fun z=>match idx d z with | some c=>if k≤c then none else known z | none=>known z:=by
 funext z;unfold ed;cases idx d z with
 | none=>rfl
 | some c=>simp [h]
theorem pr {d:List Sec} {known:Sec→Option Int} {k:Int}:ed d known k (fun z=>(idx d z).isSome)=known:=by
 funext z;unfold ed;cases h:idx d z with
 | none=>rfl
 | some c=>simp [h]
theorem pt {d:List Sec} {known:Sec→Option Int} {k c:Int} {left:Sec→Bool} {x:Sec} (hx:idx d x=some c) (hc:¬ k≤c):ed d known k (fun z=>left z && z != x)=ed d known k left:=by
 funext z;unfold ed
 by_cases e:z=x
 ·subst e;rw [hx];simp [hc]
 ·have:(left z && z != x)=left z:=by simp [e]
  simp only [this]
theorem r8 {d:List Sec} {known:Sec→Option Int} {k c:Int} {left:Sec→Bool} {x:Sec} (hx:idx d x=some c) (hc:k≤c):ed d known k (fun z=>left z && z != x)=xV (ed d known k left) x:=by
 funext z;unfold xV
 by_cases e:z=x
 ·subst e;rw [if_pos rfl];unfold ed;rw [hx];simp [hc]
 ·rw [if_neg e];unfold ed;have:(left z && z != x)=left z:=by simp [e]
  simp only [this]
def FltV (w:World) (f:Option (Int×Int)) (fv:Option Addr):Prop:=match f with
 | none=>fv=none
 | some (c,p)=>∃ b,fv=some ⟨b,0,none⟩∧w.heap[b]?=some (.cells #[.int .i64 c,.int .i64 p] 119 (0,0))
def bX (b1 b2:Nat) (s:CS) (fv:Option Addr):Array Value:=#[.map (some b1),.map (some b2),.int .i64 (s.ki 0),.int .i64 (s.ki 1),.int .i64 (s.ki 2),.int .i64 (s.ki 3),.int .i64 (s.ki 4),.int .i64 (s.ki 5),.int .i64 (s.ki 6),.int .i64 (s.ki 7),.int .i64 (s.ki 8),.int .i64 s.cells,.pointer fv]
structure CK (w:World) (g b1 b2:Nat) (s:CS):Prop where
 row:∃ fv,w.heap[g]?=some (.cells (bX b1 b2 s fv) 123 (0,0))∧FltV w s.flt fv
 known:∃ c,NMap w b1 156 s.decl.length c s.known
 decl:NMap w b2 3 s.decl.length s.decl.length (idx s.decl)
 len:s.decl.length≤16
 ne:b1≠b2
 names:∀ nm∈s.decl,nm.length≤65536
section
variable {w w':World} {g b1 b2:Nat} {s:CS}
theorem FltV.kept {S:List Nat} {f:Option (Int×Int)} {fv:Option Addr} (h:FltV w f fv) (ho:Only S w w') (hs:∀ k∈S,∀ o,w.heap[k]?=some o→∀ cs fr,o≠.cells cs 119 fr):FltV w' f fv:=by
 cases f with
 | none=>exact h
 | some x=>
  obtain ⟨c,p⟩:=x;obtain ⟨b,rfl,hb⟩:=h;exact ⟨b,rfl,ho.heap hb (fun hk=>hs b hk _ hb _ _ rfl)⟩
theorem CK.b1_lt (h:CK w g b1 b2 s):b1 < w.heap.size:=by obtain ⟨c,h⟩:=h.known;exact h.lt
theorem CK.b2_lt (h:CK w g b1 b2 s):b2 < w.heap.size:=h.decl.lt
theorem CK.g_lt (h:CK w g b1 b2 s):g < w.heap.size:=by obtain ⟨fv,h,_⟩:=h.row;exact ak h
theorem CK.ne1 (h:CK w g b1 b2 s):b1≠g:=by obtain ⟨fv,h1,_⟩:=h.row;obtain ⟨c,h2⟩:=h.known;exact h2.ne h1
theorem CK.ne2 (h:CK w g b1 b2 s):b2≠g:=by obtain ⟨fv,h1,_⟩:=h.row;exact h.decl.ne h1
theorem CK.no_flt (h:CK w g b1 b2 s):∀ k∈[g,b1,b2],∀ o,w.heap[k]?=some o→∀ cs fr,o≠.cells cs 119 fr:=by
 intro k hk o ho cs fr e;subst e;obtain ⟨fv,h1,_⟩:=h.row;obtain ⟨c,h2⟩:=h.known;simp only [List.mem_cons,List.not_mem_nil,or_false] at hk;rcases hk with rfl | rfl | rfl
 ·rw [h1] at ho;injection ho with e
  injection e with _ e2 _
  exact absurd e2 (by decide)
 ·exact h2.ne ho rfl
 ·exact h.decl.ne ho rfl
theorem CK.quiet (h:CK w g b1 b2 s) (ho:Only [] w w'):CK w' g b1 b2 s:=by
 obtain ⟨fv,h1,h2⟩:=h.row;obtain ⟨c,h3⟩:=h.known;exact ⟨⟨fv,ho.heap h1 (by simp),h2.kept ho (by simp)⟩,⟨c,h3.kept ho (by simp)⟩,h.decl.kept ho (by simp),h.len,h.ne,h.names⟩
theorem CK.turn {s':CS} {fv:Option Addr} (h:CK w g b1 b2 s) (ho:Only [g] w w') (hr:w'.heap[g]?=some (.cells (bX b1 b2 s' fv) 123 (0,0))) (hf:FltV w' s'.flt fv) (hd:s'.decl=s.decl) (hk:s'.known=s.known):CK w' g b1 b2 s':=by
 obtain ⟨c,h3⟩:=h.known;refine ⟨⟨fv,hr,hf⟩,⟨c,?_⟩,?_,by rw [hd];exact h.len,h.ne,by rw [hd];exact h.names⟩
 ·rw [hd,hk];exact h3.kept ho (by simpa using h.ne1)
 ·rw [hd];exact h.decl.kept ho (by simpa using h.ne2)
theorem cS (h:CK w g b1 b2 s) (c p:Int):Calls Tryz.prog 98 #[.pointer (some ⟨g,0,none⟩),.int .i64 c,.int .i64 p] w fun e w'=>e=.returned (.tuple #[])∧CK w' g b1 b2 (s.fail c p)∧Only [g] w w':=by
 obtain ⟨fv,h1,h2⟩:=h.row;have c12:w.cell? ⟨g,12,none⟩=some (.pointer fv):=ab 12 h1;have H:=Hd h;have H1:=Hd h1;have H2:=Hd h2;have hg:=h.g_lt;cases hf:s.flt with
 | some x=>
  obtain ⟨c0,p0⟩:=x;rw [hf] at h2;obtain ⟨b,rfl,hb⟩:=h2;have hs:s.fail c p=s:=by unfold CS.fail;rw [hf]
  clear h h1 hb
  go_enter Tryz.func98,Tryz.ntmps98
  go_wp2_with fail
  go_end0;exact ⟨rfl,by rw [hs];exact H.out,Only.refl _ _⟩
 | none=>
  rw [hf] at h2;obtain rfl:fv=none:=h2;have g12:=ae 12 h1;have hne:g≠w.heap.size:=by omega
  have hs:s.fail c p={s with flt:=some (c,p) }:=by unfold CS.fail;rw [hf]
  clear h h1
  go_enter Tryz.func98,Tryz.ntmps98
  go_wp2_with fail
  go_end0;have ho:Only [g] w ((w.setCell ⟨g,12,none⟩ (.pointer (some ⟨w.heap.size,0,none⟩))).alloc (.cells #[.int .i64 c,.int .i64 p] 119)):=((Only.refl [g] w).setCell (.inl (by simp)) _).alloc _;refine ⟨rfl,H.out.turn ho (fv:=some ⟨w.heap.size,0,none⟩) ?_ ?_ (by rw [hs]) (by rw [hs]),ho⟩
  ·rw [hs];exact ax _ (af (i:=12) (.pointer (some ⟨w.heap.size,0,none⟩)) H1.out)
  ·rw [hs];refine ⟨w.heap.size,rfl,?_⟩;have:=ag (w.setCell ⟨g,12,none⟩ (.pointer (some ⟨w.heap.size,0,none⟩))) (.cells #[.int .i64 c,.int .i64 p] 119);rw [show (w.setCell ⟨g,12,none⟩ (.pointer (some ⟨w.heap.size,0,none⟩))).heap.size=w.heap.size by simp] at this;exact this
theorem cC (w:World):(zeroValue 3).run Tryz.prog w=.ok (.int .i64 0) w:=by kernel_rfl
theorem uE (w:World):(zeroValue 156).run Tryz.prog w=.ok (.int .i64 0) w:=by kernel_rfl
theorem et (h:CK w g b1 b2 s) (nm:Sec) (hnm:nm.length≤65536) (of p:Int) (hof:(Lit.int .i64 of).wf=true) :
    Calls Tryz.prog 112 #[.pointer (some ⟨g,0,none⟩),.string (aj nm),.int .i64 of,.int .i64 p] w fun e w'=>e=.returned (.tuple #[])∧CK w' g b1 b2 (s.declare nm of p)∧Only [g,b1,b2] w w':=by
  obtain ⟨fv,h1,h2⟩:=h.row;have c0:w.cell? ⟨g,0,none⟩=some (.map (some b1)):=ab 0 h1;have c1:w.cell? ⟨g,1,none⟩=some (.map (some b2)):=ab 1 h1;have hl:=h.decl.look Tryz.underlying90 Tryz.underlying3 cC hnm;rw [lP] at hl;have hlen:=fun ty=>h.decl.len Tryz.underlying90 ty;have H:=Hd h;have H1:=Hd h1;have H2:=Hd h2;obtain ⟨sn,hsn⟩:∃ sn,sn=aj nm:=⟨_,rfl⟩
  rw [← hsn] at hl⊢;have HSN:=Hd hsn;generalize (idx s.decl nm).getD 0=d0 at hl
  by_cases hm:nm∈s.decl
  · have hs:s.declare nm of p=s.fail 9 p:=by unfold CS.declare;rw [if_pos hm]
    rw [decide_eq_true hm] at hl;rw [hs];clear h h1 h2 hsn hm hs
    go_enter Tryz.func112,Tryz.ntmps112
    (go_wp2_with fail);refine (cS H.out 9 p).mono ?_;rintro e w' ⟨rfl,hk,ho⟩;have HK:=Hd (And.intro hk ho);clear hk ho;(go_wp2_with fail);(try simp only [Exit.inBlock,Exit.then]);refine bodyPost_ret (results_none rfl _ _ _) rfl ?_;exact ⟨rfl,HK.out.1,HK.out.2.mono (by simp)⟩
  · rw [decide_eq_false hm] at hl
    by_cases h16:s.decl.length=16
    · have hs:s.declare nm of p=s.fail 15 p:=by unfold CS.declare;rw [if_neg hm,if_pos h16]
      rw [hs];rw [h16] at hlen;clear h h1 h2 hsn hm hs h16
      go_enter Tryz.func112,Tryz.ntmps112
      (go_wp2_with fail);refine (cS H.out 15 p).mono ?_;rintro e w' ⟨rfl,hk,ho⟩;have HK:=Hd (And.intro hk ho);clear hk ho;(go_wp2_with fail);(try simp only [Exit.inBlock,Exit.then]);refine bodyPost_ret (results_none rfl _ _ _) rfl ?_;exact ⟨rfl,HK.out.1,HK.out.2.mono (by simp)⟩
    · have hs:s.declare nm of p={s with decl:=s.decl++[nm],known:=dk s.known nm of }:=by unfold CS.declare;rw [if_neg hm,if_neg h16]
      have hle:=h.len;obtain ⟨L,hL⟩:∃ L,L=s.decl.length:=⟨_,rfl⟩
      rw [← hL] at hlen hle;have h16':((L:Int) == 16)=false:=by simp;omega
      have h16'':¬ (L:Int)=16:=by omega
      have HM:=Hd hm;have H16:=Hd h16;have HLL:=Hd hL;have HS:=Hd hs;clear h h1 h2 hsn hm hs h16 hL
      go_enter Tryz.func112,Tryz.ntmps112
      (go_upto_region 5 with (fail));clear hl h16' h16'';have hlen2:∀ ty,(Builtin.len_ #[90] ty #[.map (some b2)]).run Tryz.prog w.drew=.ok (.int .i64 (L:Int)) w.drew:=fun ty=>by
        have:=(H.out.decl.kept (w':=w.drew) ((Only.refl [] w).drew) (by simp)).len Tryz.underlying90 ty;rw [← HLL.out] at this;exact this
      clear hlen
      go_still_tail 10,(by kernel_rfl)
      change wpList _ _ _ _ _ w.drew;have o1:Only [] w w.drew:=(Only.refl [] w).drew;have c0':w.drew.cell? ⟨g,0,none⟩=some (.map (some b1)):=ab 0 (o1.heap H1.out (by simp));have HD:=Hd (H.out.decl.kept o1 (by simp));obtain ⟨cn,hkn⟩:=H.out.known;have HKn:=Hd (hkn.kept o1 (by simp));have HO:=Hd o1;clear c0 c1 hlen2 o1 hkn;generalize w.drew=w2 at c0' HD HKn HO⊢
      go_wp2_with (first
        | (refine dD rfl (.tmp 35) (.tmp 36) (.tmp 41) rfl Tryz.underlying90 Tryz.underlying3 (by rfl) HD.out (by have:=H.out.len;omega) nm (by rw [← HSN.out];rfl) hnm (L:Int) (by rfl) (WalkArith.wf_i64 (by omega)) ?_
           intro w3 hd3 o3;have c0'':w3.cell? ⟨g,0,none⟩=some (.map (some b1)):=ac o3 c0' (by simpa using H.out.ne2.symm);have HD3:=Hd hd3;have HO3:=Hd o3;have HK3:=Hd (HKn.out.kept o3 (by simpa using H.out.ne))
           clear hd3 o3 c0')
        | (refine dD rfl (.tmp 45) (.tmp 46) (.tmp 47) rfl Tryz.underlying120 Tryz.underlying156 (by rfl) HK3.out (by have:=H.out.len;omega) nm (by rw [← HSN.out];rfl) hnm of (by rfl) hof ?_
           intro w4 hd4 o4;have HD4:=Hd hd4;have HO4:=Hd o4
           clear hd4 o4))
      go_end0;have q2:Only [b2] w w3:=(HO.out.mono (by simp)).trans HO3.out (fun k hk=>.inl hk);have q3:Only [b1,b2] w w4:=(q2.mono (T:=[b1,b2]) (by simp)).trans HO4.out (fun k hk=>.inl (by simp only [List.mem_singleton] at hk;simp [hk]));obtain ⟨fv,h1,h2⟩:=H.out.row;rw [HS.out];refine ⟨rfl,⟨⟨fv,q3.heap h1 ?_,h2.kept q3 ?_⟩,⟨(if (s.known nm).isSome=true then cn else cn+1),?_⟩,?_,?_,H.out.ne,?_⟩,q3.mono (by simp)⟩
      · simp only [List.mem_cons,List.not_mem_nil,or_false,not_or]
        exact ⟨H.out.ne1.symm,H.out.ne2.symm⟩
      · exact fun k hk=>H.out.no_flt k (List.mem_cons_of_mem _ hk)
      · show NMap w4 b1 156 (s.decl++[nm]).length (if (s.known nm).isSome=true then cn else cn+1) (dk s.known nm of)
        rw [show (s.decl++[nm]).length=s.decl.length+1 by simp];exact HD4.out
      · show NMap w4 b2 3 (s.decl++[nm]).length (s.decl++[nm]).length (idx (s.decl++[nm]))
        have h9:=HD3.out;rw [show (s.decl++[nm]).length=s.decl.length+1 by simp,qS HM.out];rw [lP,decide_eq_false HM.out,HLL.out] at h9;exact h9.kept HO4.out (by simpa using H.out.ne.symm)
      · show (s.decl++[nm]).length≤16
        have:=H.out.len;have:=H16.out;simp;omega
      · intro z hz
        rcases List.mem_append.1 hz with hz | hz
        · exact H.out.names z hz
        · rw [List.mem_singleton.1 hz];exact hnm
theorem fB (h:CK w g b1 b2 s) (k:Int):Calls Tryz.prog 136 #[.pointer (some ⟨g,0,none⟩),.int .i64 k] w fun e w'=>e=.returned (.tuple #[])∧CK w' g b1 b2 (s.forget k)∧Only [g,b1,b2] w w':=by
  obtain ⟨fv,h1,h2⟩:=h.row;have c1:w.cell? ⟨g,1,none⟩=some (.map (some b2)):=ab 1 h1;have H:=Hd h;have H1:=Hd h1;have H2:=Hd h2;clear h h1 h2
  go_enter Tryz.func136,Tryz.ntmps136
  go_wp2_with (refine gY rfl (.tmp 9) rfl Tryz.underlying90 (by rfl) H.out.decl ?_;intro w5 r cnt hr hrl o5)
  go_frame
  obtain ⟨wo,hwo⟩:∃ wo:World,wo=w:=⟨_,rfl⟩
  have HR:=Hd (And.intro hr (And.intro hrl o5));clear hr hrl o5;obtain ⟨cn,hkn⟩:=H.out.known;have HKn:=Hd hkn;clear hkn c1
  go_loopw [4,5] (fun _ _ wr=>∃ (left:Sec→Bool) (cnt1 c1:Nat),Hid (NRange wr b2 r 3 (idx s.decl) left cnt1)∧Hid (NMap wr b1 156 s.decl.length c1 (ed s.decl s.known k left))∧Hid (Only [b1] w wr)∧Hid (wr.cell? ⟨g,0,none⟩=some (.map (some b1)))) (fun _ _ wr=>wr.rangeLeft b2 r)
  case atStart=>
    refine ⟨_,cnt,cn,Hd HR.out.1,Hd ?_,Hd (HR.out.2.2.mono (by simp)),Hd (ab 0 (HR.out.2.2.heap H1.out (by simp)))⟩;rw [pr];exact HKn.out.kept HR.out.2.2 (by simp)
  case round=>
    obtain ⟨left,cnt1,c1,HG,HM,HO,HC⟩:=hrel;have hrb1:b1≠r:=fun e=>by
      obtain ⟨es,clock,hb⟩:=HM.out.obj;obtain ⟨m',s',x',c',hi⟩:=HG.out.iter;rw [e,hi] at hb;cases hb
    have HRG:=Hd (show r≠g from fun e=>by have:=HR.out.2.1;have:=H.out.g_lt;omega);have HRL:=Hd (show ¬ r < w.heap.size from fun e=>by have:=HR.out.2.1;omega)
    go_wp2_with (first
      | (refine iO rfl (.tmp 10) rfl Tryz.underlying3 (by rfl) HG.out (fun hc0 hl0=>?_) (fun x c w6 cnt2 hlx hmx hr6 hlt6 o6 hen=>?_)
         rotate_left;have c06:w6.cell? ⟨g,0,none⟩=some (.map (some b1)):=ac o6 HC.out (by simp only [List.mem_singleton];exact fun e=>HRG.out e.symm);have HM6:=Hd (HM.out.kept o6 (by simpa using hrb1));have hxl:x.length≤65536:=H.out.names x (by have:=lP (l:=s.decl) (s:=x);rw [hmx] at this;simpa using this.symm);have HX:=Hd (And.intro hlx (And.intro hmx (And.intro hr6 (And.intro hlt6 o6))));clear hlx hmx hr6 hlt6 o6
         by_cases hkc:k≤c
         rotate_left 2)
      | (refine fU rfl (.tmp 22) (.tmp 23) rfl Tryz.underlying120 (by rfl) HM6.out x (by rfl) hxl ?_;intro w7 cnt7 hd7 o7))
    · have hl:=Hd hl0
      clear hc0 hl0;go_end0;have q:=HO.out;refine ⟨rfl,⟨?_,?_,?_,H.out.len,H.out.ne,H.out.names⟩,q.mono (by simp)⟩
      · obtain ⟨fv,h1,h2⟩:=H.out.row
        exact ⟨fv,q.heap h1 (by simpa using H.out.ne1.symm),h2.kept q (fun k hk=>H.out.no_flt k (by simp only [List.mem_singleton] at hk;simp [hk]))⟩
      · refine ⟨c1,?_⟩
        have:=HM.out;rw [r7 hl.out] at this;exact this
      · exact H.out.decl.kept q (by simpa using H.out.ne.symm)
    · have HD7:=Hd (And.intro hd7 o7)
      clear hd7 o7 c06 hen;go_roundw
      case rel=>
        refine ⟨_,_,_,_,_,_,_,_,_,_,_,_,_,_,_,⟨_,cnt2,cnt7,Hd (HX.out.2.2.1.kept HD7.out.2 (by simpa using H.out.ne.symm) (by simpa using hrb1.symm)),Hd ?_,Hd ?_,Hd ?_⟩,rfl⟩
        · rw [r8 HX.out.2.1 hkc]
          exact HD7.out.1
        · exact (HO.out.trans HX.out.2.2.2.2 (fun k hk=>.inr (by rw [List.mem_singleton.1 hk];have:=HRL.out;omega))).trans HD7.out.2 (fun k hk=>.inl hk)
        · exact ac HD7.out.2 (ac HX.out.2.2.2.2 HC.out (by simp only [List.mem_singleton];exact fun e=>HRG.out e.symm)) (by simpa using H.out.ne1.symm)
      case measure=>
        have h1:=(HX.out.2.2.1.kept HD7.out.2 (by simpa using H.out.ne.symm) (by simpa using hrb1.symm)).left_eq;have h2:=HG.out.left_eq;have h3:=HX.out.2.2.2.1;omega
    · clear c06 hen
      go_roundw
      case rel=>
        refine ⟨_,cnt2,c1,Hd HX.out.2.2.1,Hd ?_,Hd ?_,Hd ?_⟩
        · rw [pt HX.out.2.1 hkc]
          exact HM6.out
        · exact HO.out.trans HX.out.2.2.2.2 (fun k hk=>.inr (by rw [List.mem_singleton.1 hk];have:=HRL.out;omega))
        · exact ac HX.out.2.2.2.2 HC.out (by simp only [List.mem_singleton];exact fun e=>HRG.out e.symm)
      case measure=>
        have h1:=HX.out.2.2.1.left_eq;have h2:=HG.out.left_eq;have h3:=HX.out.2.2.2.1;omega
end
end Go.Proofs.YtcebchffcmpfeaaGreat
