import Derived.Test.YtiaeagpepfmfgaaBq
namespace Go.Proofs.Ytiaeagpepfmfgaa
open Go.RowKit Go.Maps
set_option linter.unusedSimpArgs false
set_option linter.unusedVariables false
def bv (l:Sec):List Value:=l.map fun c=>Value.int .u8 c.toNat
section
variable {w w':World} {base:Nat} {v:Value} {l m:Sec}
end
structure Ext (w:World) (v:Value) (w':World) (v':Value):Prop where
 only:Only v.ownBlock.toList w w'
 src:∀ g,v'.ownBlock=some g→v.ownBlock=some g∨w.heap.size≤g
theorem Ext.refl (w:World) (v:Value):Ext w v w v:=⟨Only.refl _ _,fun g h=>.inl h⟩
section
variable {w:World} {ops:Array Oper} {rest:List Oper} {o:Oper} {a:Act} {Q:Exit→Act→World→Prop}
end
def Fit (v:Value):Prop:=∀ a n c,v=.slice a n c→n≤c∧c≤maxLen
def iv (xs:List Int):List Value:=xs.map (Value.int .i64)
theorem iv_length (xs:List Int):(iv xs).length=xs.length:=by simp [iv]
theorem info_int:(Try.prog.info? 3).map (fun i=>(i.zero,i.size,i.bytes))=some (some (.int .i64 0),1,8):=by kernel_rfl
section
variable {w:World} {ops:Array Oper} {rest:List Oper} {o:Oper} {a:Act} {Q:Exit→Act→World→Prop}
theorem wpList_append_int (hgd:o.guard=none) (s x:Operand) (ho:o.op=.call {callee:=.builtin .append,args:=#[s,x],argTypes:=#[22,22] })
  (base:Nat) (v:Value) (xs:List Int) (hs:a.eval s=v) (hown:w.ownsRow base 3 1 v xs.length (iv xs)) (bx:Nat) (hx:a.eval x=.slice (some ⟨bx,0,none⟩) 1 1) (k:Int) (hk:w.cell? ⟨bx,0,none⟩=some (.int .i64 k)) (hn:xs.length≤1099511627776) (hb:base≤w.heap.size)
  (h:∀ g cap w',w'.ownsRow base 3 1 (.slice (some ⟨g,0,none⟩) (xs.length+1) cap) (xs++[k]).length (iv (xs++[k]))→Only v.ownBlock.toList w w'→wpList Try.prog ops Q rest (a.put o.dst (.slice (some ⟨g,0,none⟩) (xs.length+1) cap)) w'):wpList Try.prog ops Q (o :: rest) a w:=by
 obtain ⟨i,hi,hz⟩:=Option.map_eq_some_iff.1 info_int
 simp only [Prod.mk.injEq] at hz
 obtain ⟨z1,z2,z3⟩:=hz
 refine wpList_append_lies _ hgd s x 22 ho base 3 i (.int .i64 0) 1 8 Try.underlying22 hi z1 z2 z3 rfl (by omega) v xs.length (iv xs) hs hown ⟨bx,0,none⟩ 1 1 [.int .i64 k] hx rfl ?_ (by simp [Value.oneCell']) (by omega) (by unfold maxLen;omega) (by omega) hb w.heap.size rfl ?_
 ·intro j u hj
  cases j with
  | zero=>
   simp at hj
   subst hj
   have:(⟨bx,0,none⟩:Addr).add 0=⟨bx,0,none⟩:=by simp [Addr.add]
   rw [this]
   exact hk
  | succ j=>simp at hj
 ·intro g cap w' h1 h2 _ _
  refine h g cap w' ?_ (Only.of_grown h2)
  have e1:iv (xs++[k])=iv xs++[.int .i64 k]:=by simp [iv]
  rw [e1,List.length_append]
  exact h1
end
theorem owns_kept {w w':World} {base n:Nat} {v:Value} {xs:List Value} {S:List Nat} (h:w.ownsRow base 3 1 v n xs) (ho:Only S w w') (hs:∀ k∈S,v.ownBlock≠some k):w'.ownsRow base 3 1 v n xs:=by
 refine ⟨h.1,?_⟩
 rcases h.2 with hn | ⟨g,cap,cur,rfl,hb,hg,r⟩
 ·exact .inl hn
 ·exact .inr ⟨g,cap,cur,rfl,hb,ho.heap hg (fun e=>hs g e rfl),r⟩
theorem owns_ints {w:World} {base:Nat} {v:Value} {xs:List Int} (h:w.ownsRow base 3 1 v xs.length (iv xs)) (hw:∀ x∈xs,(Lit.int .i64 x).wf=true):IntsV w v xs:=by
 rcases h.2 with ⟨rfl,hn⟩ | ⟨g,cap,cur,rfl,hb,hg,hc,_,_,ht⟩
 ·obtain rfl:xs=[]:=List.eq_nil_of_length_eq_zero hn
  exact ⟨none,0,rfl,fun i k hi=>by simp at hi⟩
 ·refine ⟨_,cap,rfl,fun i k hi=>⟨hw k (List.mem_of_getElem? hi),g,0,rfl,?_⟩⟩
  rw [Nat.zero_add,cell_at i hg]
  have h1:(iv xs)[i]?=some (Value.int .i64 k):=by simp [iv,hi]
  rw [← ht,Nat.mul_one] at h1
  have hlt:i < xs.length:=(List.getElem?_eq_some_iff.1 hi).1
  rw [List.getElem?_take_of_lt hlt] at h1
  simpa using h1
end Go.Proofs.Ytiaeagpepfmfgaa
