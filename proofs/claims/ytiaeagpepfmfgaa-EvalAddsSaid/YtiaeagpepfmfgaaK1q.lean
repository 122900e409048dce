import Derived.Test.YtiaeagpepfmfgaaB2q
import Derived.Maps.OwnSet
import Derived.StringKeys
import Derived.Sort.KeysCollected
namespace Go.Proofs.Ytiaeagpepfmfgaa
open Go.RowKit Go.Maps
set_option linter.unusedSimpArgs false
set_option linter.unusedVariables false
structure NReads (D:DataW Unit) (m:Sec→Option Int):Prop where
 has:∀ s,Maps.has D (.string s)=(m s).isSome
 at_:∀ s c,m s=some c→∀ z,D.atKey (.string s) z=.lit (.int .i64 c)
 wf:∀ s c,m s=some c→(Lit.int .i64 c).wf=true
def NMap (w:World) (b:Nat) (e:TypeId) (n cnt:Nat) (m:Sec→Option Int):Prop:=
 ∃ D:DataW Unit,w.ownsMap Try.prog 9 (plainElem Try.prog e) b n D∧NReads D m∧Maps.size D=cnt
def nput (m:Sec→Option Int) (k:Sec) (c:Int):Sec→Option Int:=fun z=>if z=k then some c else m z
def ndel (m:Sec→Option Int) (k:Sec):Sec→Option Int:=fun z=>if z=k then none else m z
theorem str_ne {a b:Sec} (h:a≠b):(Lit.string a)≠(Lit.string b):=fun e=>h (by cases e;rfl)
theorem isKey_str (k:Sec):WideAt.IsKeyLit (Lit.string k):=by simp [WideAt.IsKeyLit]
theorem str_key:Keyed Try.prog 9:=string_keyed Try.underlying9
theorem key_of {s:Sec} (hs:s.length≤65536):keyOf Try.prog 9 (.string (strOf s))=some (.string s):=by
 have:=WideMaps.keyOf_string_mk (P:=Try.prog) (k:=9) Try.underlying9 (s:=strOf s) (by unfold maxLen;simp [strOf,ByteArray.size];omega)
 rw [this]
 simp [strOf]
section
variable {w w':World} {b n cnt:Nat} {e t:TypeId} {m:Sec→Option Int}
theorem NMap.lt (h:NMap w b e n cnt m):b < w.heap.size:=by
 obtain ⟨D,ho,_⟩:=h
 exact ho.lt
theorem NMap.kept {S:List Nat} (h:NMap w b e n cnt m) (ho:Only S w w') (hb:b∉S):NMap w' b e n cnt m:=by
 obtain ⟨D,h1,h2⟩:=h
 have hlt:=h1.lt
 obtain ⟨es,clock,hb',r⟩:=h1
 exact ⟨D,⟨es,clock,(ho.block b hlt hb).trans hb',r⟩,h2⟩
theorem NMap.obj (h:NMap w b e n cnt m):∃ es clock,w.heap[b]?=some (.map es clock):=by
 obtain ⟨D,⟨es,clock,hb,_⟩,_⟩:=h
 exact ⟨es,clock,hb⟩
theorem NMap.ne (h:NMap w b e n cnt m) {g:Nat} {cs:Array Value} {t:TypeId} {fr:Nat×Nat} (hg:w.heap[g]?=some (.cells cs t fr)):b≠g:=by
 obtain ⟨es,clock,hb⟩:=h.obj
 intro e
 rw [e,hg] at hb
 cases hb
theorem NMap.look (ht:Try.prog.underlying t=some (.map 9 e)) (he:Try.prog.underlying e=some (.int .i64)) (hz:∀ w,(zeroValue e).run Try.prog w=.ok (.int .i64 0) w) (h:NMap w b e n cnt m) {k:Sec} (hk:k.length≤65536) :
  (Instr.lookup t (.map (some b)) (.string (strOf k)) true).run Try.prog w=.ok (.tuple #[.int .i64 ((m k).getD 0),.bool (m k).isSome]) w:=by
 obtain ⟨D,ho,hr,_⟩:=h
 obtain ⟨v,ps,hrun,hv⟩:=ho.look_ok str_key ht (hz w) (plainElem_int he (by decide)) (key_of hk)
 obtain ⟨c,rfl,hc,hwc⟩:=plainElem_int_inv he hv
 simp only [Prod.mk.injEq] at hc
 rw [hrun,hr.has]
 cases hm:m k with
 | none=>
  have hh:=hr.has k
  rw [hm] at hh
  rw [Maps.atKey_of_not_has (by simpa using hh)] at hc
  obtain ⟨hc,_⟩:=hc
  cases hc
  rfl
 | some l'=>
  rw [hr.at_ k l' hm] at hc
  obtain ⟨hc,_⟩:=hc
  cases hc
  rfl
theorem NMap.len (ht:Try.prog.underlying t=some (.map 9 e)) (h:NMap w b e n cnt m) (ty:TypeId):(Builtin.len_ #[t] ty #[.map (some b)]).run Try.prog w=.ok (.int .i64 (cnt:Int)) w:=by
 obtain ⟨D,ho,_,rfl⟩:=h
 exact ho.len ht ty
theorem NMap.store (ht:Try.prog.underlying t=some (.map 9 e)) (he:Try.prog.underlying e=some (.int .i64)) (h:NMap w b e n cnt m) (hn:n≤65536) {k:Sec} (hk:k.length≤65536) {c:Int} (hc:(Lit.int .i64 c).wf=true) :
  ∃ w',(Instr.mapUpdate t (.map (some b)) (.string (strOf k)) (.int .i64 c)).run Try.prog w=.ok () w'∧NMap w' b e (n+1) (if (m k).isSome=true then cnt else cnt+1) (nput m k c)∧Only [b] w w':=by
 obtain ⟨D,ho,hr,hs⟩:=h
 obtain ⟨w',hrun,ho',hg⟩:=ho.update str_key ht (by unfold maxLen;omega) (key_of hk) (plainElem_int he hc)
 have htd:=ho.tidy str_key
 refine ⟨w',hrun,⟨_,ho',⟨fun z=>?_,fun z l' hz zd=>?_,fun z l' hz=>?_⟩,?_⟩,Only.of_grown hg⟩
 ·by_cases e1:z=k
  ·subst e1
   rw [Maps.has_put_same htd.isMap (isKey_str z)]
   simp [nput]
  ·rw [Maps.has_put_other (str_ne e1),hr.has]
   simp [nput,e1]
 ·by_cases e1:z=k
  ·subst e1
   rw [Maps.atKey_put_same htd.isMap (isKey_str z)]
   simp only [nput,if_true,Option.some.injEq] at hz
   rw [hz]
  ·rw [Maps.atKey_put_other (str_ne e1)]
   exact hr.at_ z l' (by simpa [nput,e1] using hz) zd
 ·by_cases e1:z=k
  ·subst e1
   simp only [nput,if_true,Option.some.injEq] at hz
   rw [← hz]
   exact hc
  ·exact hr.wf z l' (by simpa [nput,e1] using hz)
 ·rw [Maps.size_put htd,hr.has,hs]
theorem NMap.drop (ht:Try.prog.underlying t=some (.map 9 e)) (h:NMap w b e n cnt m) {k:Sec} (hk:k.length≤65536) (ty:TypeId) :
  ∃ w' cnt',(Builtin.delete_ #[t,9] ty #[.map (some b),.string (strOf k)]).run Try.prog w=.ok (.tuple #[]) w'∧NMap w' b e n cnt' (ndel m k)∧Only [b] w w':=by
 obtain ⟨D,ho,hr,hs⟩:=h
 obtain ⟨w',hrun,ho',hg⟩:=ho.drop str_key ht (key_of hk) ty
 refine ⟨w',_,hrun,⟨_,ho',⟨fun z=>?_,fun z l' hz zd=>?_,fun z l' hz=>?_⟩,rfl⟩,Only.of_grown hg.grown⟩
 ·by_cases e1:z=k
  ·subst e1
   rw [Maps.has_del_same]
   simp [ndel]
  ·rw [Maps.has_del_other (str_ne e1),hr.has]
   simp [ndel,e1]
 ·by_cases e1:z=k
  ·subst e1
   simp [ndel] at hz
  ·rw [Maps.atKey_del_other (str_ne e1)]
   exact hr.at_ z l' (by simpa [ndel,e1] using hz) zd
 ·by_cases e1:z=k
  ·subst e1
   simp [ndel] at hz
  ·exact hr.wf z l' (by simpa [ndel,e1] using hz)
theorem nreads_empty:NReads (.map []) (fun _=>none):=⟨fun _=>rfl,fun _ _ h=>by simp at h,fun _ _ h=>by simp at h⟩
theorem NMap.made (w:World) (e:TypeId):NMap (w.alloc (.map #[] 0)) w.heap.size e 0 0 (fun _=>none):=⟨_,World.ownsMap_made w Try.prog 9 _,nreads_empty,rfl⟩
def NRange (w:World) (b r:Nat) (e:TypeId) (m:Sec→Option Int) (left:Sec→Bool) (cnt:Nat):Prop:=
 ∃ (n:Nat) (D:DataW Unit) (lf:Lit→Bool),w.ranges Try.prog 9 (plainElem Try.prog e) b r n D lf cnt∧NReads D m∧∀ k,lf (.string k)=left k
theorem NRange.kept {S:List Nat} {r:Nat} {left:Sec→Bool} (h:NRange w b r e m left cnt) (ho:Only S w w') (hb:b∉S) (hr:r∉S):NRange w' b r e m left cnt:=by
 obtain ⟨n,D,lf,h1,h2,h3⟩:=h
 have hl1:=h1.owns.lt
 have hl2:=h1.lt
 obtain ⟨es,clock,since,seen,c0,hb',F,hs,hD,hr',rest⟩:=h1
 exact ⟨n,D,lf,⟨es,clock,since,seen,c0,(ho.block b hl1 hb).trans hb',F,hs,hD,(ho.block r hl2 hr).trans hr',rest⟩,h2,h3⟩
theorem NRange.left_eq {r:Nat} {left:Sec→Bool} (h:NRange w b r e m left cnt):w.rangeLeft b r=cnt:=by
 obtain ⟨n,D,lf,h1,_,_⟩:=h
 exact h1.left_eq
theorem NRange.iter {r:Nat} {left:Sec→Bool} (h:NRange w b r e m left cnt):∃ m' s x c,w.heap[r]?=some (.mapIter m' s x c):=by
 obtain ⟨n,D,lf,⟨es,clock,since,seen,c0,_,_,_,_,hr,_⟩,_,_⟩:=h
 exact ⟨_,_,_,_,hr⟩
theorem NMap.range (ht:Try.prog.underlying t=some (.map 9 e)) (h:NMap w b e n cnt m) :
  ∃ w' cnt',(Instr.range t (.map (some b))).run Try.prog w=.ok (.pointer (some ⟨w.heap.size,0,none⟩)) w'∧NRange w' b w.heap.size e m (fun k=>(m k).isSome) cnt'∧Only [] w w'∧w'.heap.size=w.heap.size+1:=by
 obtain ⟨D,ho,hr,_⟩:=h
 obtain ⟨w',hrun,h1,h2,h3⟩:=ho.range str_key ht
 exact ⟨w',_,hrun,⟨n,D,_,h1,hr,hr.has⟩,Only.of_grown h2,h3⟩
theorem NRange.next {r:Nat} {left:Sec→Bool} (he:Try.prog.underlying e=some (.int .i64)) (h:NRange w b r e m left cnt) (ty:TypeId) :
  (cnt=0∧(∀ k,left k=false)∧(Instr.next (.pointer (some ⟨r,0,none⟩)) false ty).run Try.prog w=.ok (.tuple #[.bool false]) w)∨
  ∃ x c w' cnt',left x=true∧m x=some c∧(Instr.next (.pointer (some ⟨r,0,none⟩)) false ty).run Try.prog w=.ok (.tuple #[.bool true,.string (strOf x),.int .i64 c]) w'∧
   NRange w' b r e m (fun z=>left z && z != x) cnt'∧cnt' < cnt∧Only [r] w w'∧w'.heap.size=w.heap.size∧(Instr.entry (.pointer (some ⟨r,0,none⟩))).run Try.prog w'=.ok (.tuple #[.string (strOf x),.int .i64 c]) w':=by
 obtain ⟨n,D,lf,h1,h2,h3⟩:=h
 rcases h1.next str_key ty with ⟨h0,hl,hrun⟩ | ⟨key,v,kl,y,w',cnt',hkey,hlk,hv,hat,hrun,hrg,hlt,hgr,hsz,hen⟩
 ·exact .inl ⟨h0,fun k=>by rw [← h3];exact hl _,hrun⟩
 ·obtain ⟨x,rfl,rfl,hwx⟩:=Maps.keyOf_str Try.underlying9 hkey
  obtain ⟨c,rfl,rfl,hwc⟩:=plainElem_int_inv he hv
  have hhas:∀ k,lf (.string k)=true→Maps.has D (.string k)=true:=fun k hk'=>by
   obtain ⟨es,clock,since,seen,c0,hb',F,hs,hD,hr',ho',hc',hl1,hl2,_⟩:=h1
   obtain ⟨e0,he0,hk0⟩:=hl2 _ hk'
   rw [hD]
   exact List.any_eq_true.2 ⟨_,mem_sorted.2 (List.mem_map.2 ⟨e0,he0,rfl⟩),by rw [hk0];exact WideAt.sameKey_self (isKey_str k)⟩
  have hm:m x=some c:=by
   have hh:=hhas x hlk
   rw [h2.has] at hh
   obtain ⟨l',hl'⟩:=Option.isSome_iff_exists.1 hh
   have e1:=h2.at_ x l' hl' (.lit (.bool true))
   rw [hat] at e1
   cases e1
   exact hl'
  refine .inr ⟨x,c,w',cnt',by rw [← h3];exact hlk,hm,hrun,⟨n,D,_,hrg,h2,fun k=>?_⟩,hlt,Only.of_grown hgr,hsz,hen⟩
  show (lf (.string k) && !(Lit.string k).sameKey (.string x))=(left k && k != x)
  rw [h3]
  rfl
end
section
variable {w:World} {ops:Array Oper} {rest:List Oper} {o:Oper} {a:Act} {Q:Exit→Act→World→Prop} {b n cnt:Nat} {e t:TypeId} {m:Sec→Option Int}
theorem wpList_nmap_store (hg:o.guard=none) (x y z:Operand) (hop:o.op=Op.mapUpdate t x y z) (ht:Try.prog.underlying t=some (.map 9 e)) (he:Try.prog.underlying e=some (.int .i64))
  (hm:a.eval x=.map (some b)) (h:NMap w b e n cnt m) (hn:n≤65536) (k:Sec) (hx:a.eval y=.string (strOf k)) (hk:k.length≤65536) (c:Int) (hv:a.eval z=.int .i64 c) (hc:(Lit.int .i64 c).wf=true)
  (hK:∀ w',NMap w' b e (n+1) (if (m k).isSome=true then cnt else cnt+1) (nput m k c)→Only [b] w w'→wpList Try.prog ops Q rest (a.put o.dst undef) w'):wpList Try.prog ops Q (o :: rest) a w:=by
 refine wpList_plain hg fun K' hK'=>?_
 obtain ⟨w',hrun,r1,r2⟩:=h.store ht he hn hk hc
 unfold Oper.wp
 simp [execOp,hop,hm,hx,hv,hrun,Result.andThen]
 exact hK' _ _ (hK w' r1 r2)
theorem step_nmap_store {K:Act→World→Prop} {E:Prop} (hg:o.guard=none) (x y z:Operand) (hop:o.op=Op.mapUpdate t x y z) (ht:Try.prog.underlying t=some (.map 9 e)) (he:Try.prog.underlying e=some (.int .i64))
  (hm:a.eval x=.map (some b)) (h:NMap w b e n cnt m) (hn:n≤65536) (k:Sec) (hx:a.eval y=.string (strOf k)) (hk:k.length≤65536) (c:Int) (hv:a.eval z=.int .i64 c) (hc:(Lit.int .i64 c).wf=true)
  (hK:∀ w',NMap w' b e (n+1) (if (m k).isSome=true then cnt else cnt+1) (nput m k c)→Only [b] w w'→K (a.put o.dst undef) w'):if Region.wanted o (yielded ops a.tmps)=true then Oper.wp Try.prog o a w K Q else E:=by
 have hw:Region.wanted o (yielded ops a.tmps)=true:=by simp [Region.wanted,hg]
 rw [if_pos hw]
 obtain ⟨w',hrun,r1,r2⟩:=h.store ht he hn hk hc
 unfold Oper.wp
 simp [execOp,hop,hm,hx,hv,hrun,Result.andThen]
 exact hK w' r1 r2
theorem wpList_nmap_delete (hg:o.guard=none) (x y:Operand) (hop:o.op=Op.call {callee:=Callee.builtin Builtin.delete,args:=#[x,y],argTypes:=#[t,9] }) (ht:Try.prog.underlying t=some (.map 9 e))
  (hm:a.eval x=.map (some b)) (h:NMap w b e n cnt m) (k:Sec) (hx:a.eval y=.string (strOf k)) (hk:k.length≤65536)
  (hK:∀ w' cnt',NMap w' b e n cnt' (ndel m k)→Only [b] w w'→wpList Try.prog ops Q rest (a.put o.dst (.tuple #[])) w'):wpList Try.prog ops Q (o :: rest) a w:=by
 refine wpList_plain hg fun K' hK'=>?_
 obtain ⟨w',cnt',hrun,r1,r2⟩:=h.drop ht hk o.type
 unfold Oper.wp
 simp [execOp,hop,resolve,invoke,builtin,hm,hx,hrun,Result.andThen]
 exact hK' _ _ (hK w' cnt' r1 r2)
theorem wpList_nmap_range (hg:o.guard=none) (x:Operand) (hop:o.op=Op.range t x) (ht:Try.prog.underlying t=some (.map 9 e))
  (hm:a.eval x=.map (some b)) (h:NMap w b e n cnt m)
  (hK:∀ w' r cnt',NRange w' b r e m (fun k=>(m k).isSome) cnt'→w.heap.size≤r→Only [] w w'→wpList Try.prog ops Q rest (a.put o.dst (.pointer (some ⟨r,0,none⟩))) w'):wpList Try.prog ops Q (o :: rest) a w:=by
 refine wpList_plain hg fun K' hK'=>?_
 obtain ⟨w',cnt',hrun,r1,r2,_⟩:=h.range ht
 unfold Oper.wp
 simp [execOp,hop,hm,hrun,Result.andThen]
 exact hK' _ _ (hK w' _ cnt' r1 (Nat.le_refl _) r2)
theorem wpList_nmap_next {r:Nat} {left:Sec→Bool} (hg:o.guard=none) (x:Operand) (hop:o.op=Op.next x false) (he:Try.prog.underlying e=some (.int .i64))
  (hm:a.eval x=.pointer (some ⟨r,0,none⟩)) (h:NRange w b r e m left cnt)
  (hDone:cnt=0→(∀ k,left k=false)→wpList Try.prog ops Q rest (a.put o.dst (.tuple #[.bool false])) w)
  (hMore:∀ x c w' cnt',left x=true→m x=some c→NRange w' b r e m (fun z=>left z && z != x) cnt'→cnt' < cnt→Only [r] w w'→
   (Instr.entry (.pointer (some ⟨r,0,none⟩))).run Try.prog w'=.ok (.tuple #[.string (strOf x),.int .i64 c]) w'→wpList Try.prog ops Q rest (a.put o.dst (.tuple #[.bool true,.string (strOf x),.int .i64 c])) w'):wpList Try.prog ops Q (o :: rest) a w:=by
 refine wpList_plain hg fun K' hK'=>?_
 unfold Oper.wp
 rcases h.next he o.type with ⟨h0,hl,hrun⟩ | ⟨x',l,w',cnt',h1,h2,hrun,h3,h4,h5,_,h7⟩
 ·simp [execOp,hop,hm,hrun,Result.andThen]
  exact hK' _ _ (hDone h0 hl)
 ·simp [execOp,hop,hm,hrun,Result.andThen]
  exact hK' _ _ (hMore x' l w' cnt' h1 h2 h3 h4 h5 h7)
end
end Go.Proofs.Ytiaeagpepfmfgaa
