import Derived.Test.YtiaeagpepfmfgaaG4q
namespace Go.Proofs.Ytiaeagpepfmfgaa
open Go.RowKit Go.Maps
set_option linter.unusedSimpArgs false
set_option linter.unusedVariables false
def RE (w:World) (r:Except Nat (E×Nat)) (e:Ending) (w':World):Prop:=
 ∃ (k n:Int) (s:ByteArray) (a:Option Addr) (l c:Nat) (p:Int),e=.returned (.tuple #[.agg #[.int .i64 k,.int .i64 n,.string s,.slice a l c,.int .i64 p],.int .i64 (zR r)])∧
  (∀ t i,r=.ok (t,i)→EV w' (fun b=>w.heap.size≤b) t [.int .i64 k,.int .i64 n,.string s,.slice a l c,.int .i64 p])∧Only [] w w'
theorem RE.bad {w w':World} {k n:Int} {s:ByteArray} {a:Option Addr} {l c:Nat} {p z:Int} {i:Nat} (hz:z=-1 - (i:Int)) (ho:Only [] w w') :
  RE w (.error i) (.returned (.tuple #[.agg #[.int .i64 k,.int .i64 n,.string s,.slice a l c,.int .i64 p],.int .i64 z])) w':=
 ⟨k,n,s,a,l,c,p,by rw [hz];rfl,fun t j h=>(by cases h),ho⟩
theorem RE.good {w w':World} {k n:Int} {s:ByteArray} {a:Option Addr} {l c:Nat} {p z:Int} {i:Nat} {t:E} (hz:z=(i:Int)) (ho:Only [] w w')
  (hv:EV w' (fun b=>w.heap.size≤b) t [.int .i64 k,.int .i64 n,.string s,.slice a l c,.int .i64 p]) :
  RE w (.ok (t,i)) (.returned (.tuple #[.agg #[.int .i64 k,.int .i64 n,.string s,.slice a l c,.int .i64 p],.int .i64 z])) w':=
 ⟨k,n,s,a,l,c,p,by rw [hz];rfl,fun t' j h=>by cases h;exact hv,ho⟩
section
variable {w w':World} {v:Value} {ts:List Tok}
theorem zP_neg (k:Nat):∃ y:Int,zP (.error k)=y∧y < 0∧y=-1 - (k:Int):=⟨_,rfl,by show -1 - (k:Int) < 0;omega,rfl⟩
set_option maxHeartbeats 1000000 in
theorem rsmall_err (h:TS w v ts) (k:Nat) (dp:Int):Calls Try.prog 57 #[v,.int .i64 (zP (.error k)),.int .i64 dp] w (RE w (.error k)):=by
 obtain ⟨a,cap,rfl⟩:=h.shape
 obtain ⟨y,hy,hy0,hy1⟩:=zP_neg k
 rw [hy]
 have HY:=Lib.hid hy1
 clear h hy hy1
 go_enter Try.func57,Try.ntmps57
 go_wp2_with fail
 go_returns
 exact RE.bad HY.out ((Only.refl [] w).alloc _)
def SmallC (ts:List Tok) (f:Nat):Prop:=∀ (w:World) (v:Value) (i dp:Nat),TS w v ts→i < ts.length→3*(ts.length - i)+2≤f→dp≤13→Calls Try.prog 57 #[v,.int .i64 (i:Int),.int .i64 (dp:Int)] w (RE w (smallR ts f i dp))
def AroundC (ts:List Tok) (f:Nat):Prop:=∀ (w:World) (v:Value) (i dp:Nat) (x y:ByteArray),TS w v ts→i < ts.length→3*(ts.length - i)+1≤f→dp≤13→Calls Try.prog 77 #[v,.int .i64 (i:Int),.int .i64 (dp:Int),.string x,.string y] w (RE w (aroundR ts f i dp x.data.toList y.data.toList))
def ExprC (ts:List Tok) (f:Nat):Prop:=∀ (w:World) (v:Value) (i least dp:Nat),TS w v ts→i < ts.length→3*(ts.length - i)+3≤f→least≤6→dp≤13→Calls Try.prog 43 #[v,.int .i64 (i:Int),.int .i64 (least:Int),.int .i64 (dp:Int)] w (RE w (exprR ts f i least dp))
theorem EV.leaf {w:World} {B:Nat→Prop} (k n p:Int) (s:ByteArray) (l:Sec) (hs:strOf l=s):EV w B (.mk k n l [] p) [.int .i64 k,.int .i64 n,.string s,.slice none 0 0,.int .i64 p]:=by
 subst hs
 exact EV.mk' (EsV.nil _ _)
theorem RE.leaf {w w':World} {k n p z:Int} {s:ByteArray} {l:Sec} {i:Nat} (hs:strOf l=s) (hz:z=(i:Int)) (ho:Only [] w w') :
  RE w (.ok (.mk k n l [] p,i)) (.returned (.tuple #[.agg #[.int .i64 k,.int .i64 n,.string s,.slice none 0 0,.int .i64 p],.int .i64 z])) w':=
 RE.good hz ho (EV.leaf _ _ _ _ _ hs)
def oneR (kd ps:Int) (r:Except Nat (E×Nat)):Except Nat (E×Nat):=match r with | .error k=>.error k | .ok (e,a)=>.ok (.mk kd 0 [] [e] ps,a)
theorem RE.one {w w3 w4 W1 W:World} {gE gR ng:Nat} {t:E} {cs:List Value} {kd ps z:Int} {i:Nat} (hv:EV w4 (fun b=>w3.heap.size≤b) t cs) (h03:Only [] w w3) (h34:Only [] w3 w4) (hE:w.heap.size≤gE∧gE < w3.heap.size) (hR:w.heap.size≤gR∧gR < w3.heap.size)
  (o1:Only [gE] w4 W1) (o2:Only [gE,gR] (W1.alloc (.cells cs.toArray 70)) W) (hng:W1.heap.size=ng) (hz:z=(i:Int)) :
  RE w (.ok (.mk kd 0 [] [t] ps,i)) (.returned (.tuple #[.agg #[.int .i64 kd,.int .i64 0,.string ⟨#[]⟩,.slice (some ⟨ng,0,none⟩) 1 1,.int .i64 ps],.int .i64 z])) W:=by
 have h04:=h03.trans h34 (by simp)
 have hz4:=h34.size
 have hz1:=o1.size
 have ho:Only [] w W:=by
  refine (h04.trans (T:=[gE]) o1 (fun k hk=>.inr ?_)).trans (T:=[gE,gR]) (((Only.refl [gE,gR] W1).alloc _).trans o2 (fun k hk=>.inl hk)) (fun k hk=>.inr ?_)
  ·rw [List.mem_singleton.1 hk];exact hE.1
  ·rcases List.mem_cons.1 hk with rfl | hk
   ·exact hE.1
   ·rw [List.mem_singleton.1 hk];exact hR.1
 refine RE.good hz ho ?_
 have h1:EV W1 (fun b=>w3.heap.size≤b) t cs:=EV.kept o1 (fun k hk hb=>by rw [List.mem_singleton.1 hk] at hb;omega) (fun _ h=>h) t cs hv
 have h2:=EsV.made1 h1 (show w3.heap.size≤W1.heap.size by omega)
 rw [hng] at h2
 have h3:EsV W (fun b=>w.heap.size≤b) (.slice (some ⟨ng,0,none⟩) 1 1) [t]:=h2.kept o2 (fun k hk hb=>by
  rcases List.mem_cons.1 hk with rfl | hk
  ·omega
  ·rw [List.mem_singleton.1 hk] at hb;omega) (fun b hb=>by have:=h03.size;omega)
 exact EV.mk' (s:=[]) h3
theorem five_set {W:World} {g:Nat} {z0 z1 z2 z3 z4:Value} {t:TypeId} (h:W.heap[g]?=some (.cells #[z0,z1,z2,z3,z4] t (0,0))) (v0 v1 v2 v3 v4:Value) :
  (((((W.setCell ⟨g,0,none⟩ v0).setCell ⟨g,1,none⟩ v1).setCell ⟨g,2,none⟩ v2).setCell ⟨g,3,none⟩ v3).setCell ⟨g,4,none⟩ v4).heap[g]?=some (.cells #[v0,v1,v2,v3,v4] t (0,0)):=
 heap_cell (i:=4) v4 (heap_cell (i:=3) v3 (heap_cell (i:=2) v2 (heap_cell (i:=1) v1 (heap_cell (i:=0) v0 h))))
theorem load_expr (w:World) (g:Nat) (v0 v1 v2 v3 v4:Value) (h:w.heap[g]?=some (.cells #[v0,v1,v2,v3,v4] 70 (0,0))):(loadVar 70 ⟨g,0,none⟩).run Try.prog w=.ok (.agg #[v0,v1,v2,v3,v4]) w:=by
 have c0:w.cell? ⟨g,0,none⟩=some v0:=cell_at 0 h
 have c1:w.cell? ⟨g,1,none⟩=some v1:=cell_at 1 h
 have c2:w.cell? ⟨g,2,none⟩=some v2:=cell_at 2 h
 have c3:w.cell? ⟨g,3,none⟩=some v3:=cell_at 3 h
 have c4:w.cell? ⟨g,4,none⟩=some v4:=cell_at 4 h
 clear h
 simp [go_sem,c0,c1,c2,c3,c4]
theorem res_small (tmps:Array Value) (w:World) (g:Nat) (v0 v1 v2 v3 v4 z:Value) (h6:tmps.getD 6 undef=.pointer (some ⟨g,0,none⟩)) (h7:tmps.getD 7 undef=z) (h:w.heap[g]?=some (.cells #[v0,v1,v2,v3,v4] 70 (0,0))) :
  (results Try.f57 tmps).run Try.prog w=.ok (.tuple #[.agg #[v0,v1,v2,v3,v4],z]) w:=by
 have hl:=load_expr w g v0 v1 v2 v3 v4 h
 have h6':tmps[6]?.getD undef=.pointer (some ⟨g,0,none⟩):=by simpa using h6
 have h7':tmps[7]?.getD undef=z:=by simpa using h7
 simp [results,Try.results57,asAddr,h6',h7',hl]
theorem calls_three {P:Program} {f:FuncId} {args:Array Value} {A B C:Obj} {Q:Ending→World→Prop} (h:∀ w3,w3.heap[w.heap.size]?=some A→w3.heap[w.heap.size+1]?=some B→w3.heap[w.heap.size+1+1]?=some C→Only [] w w3→Calls P f args w3 Q) :
  Calls P f args (((w.alloc A).alloc B).alloc C) Q:=by
 have s1:(w.alloc A).heap.size=w.heap.size+1:=Array.size_push _
 have s2:((w.alloc A).alloc B).heap.size=w.heap.size+1+1:=by rw [← s1];exact Array.size_push _
 refine h _ ?_ ?_ ?_ ((((Only.refl [] w).alloc _).alloc _).alloc _)
 ·exact heap_old _ (heap_old _ (heap_new w A))
 ·rw [← s1];exact heap_old _ (heap_new (w.alloc A) B)
 ·rw [← s2];exact heap_new _ C
end
end Go.Proofs.Ytiaeagpepfmfgaa
