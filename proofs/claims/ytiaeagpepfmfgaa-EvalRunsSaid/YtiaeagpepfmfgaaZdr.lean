import Derived.Test.YtiaeagpepfmfgaaQbr
import Derived.Test.YtiaeagpepfmfgaaZcr
import Derived.Test.YtiaeagpepfmfgaaWar
import Derived.Test.YtiaeagpepfmfgaaZar
namespace Go.Proofs.Ytiaeagpepfmfgaa
open Go.RowKit Go.Maps
set_option linter.unusedSimpArgs false
set_option linter.unusedVariables false
def OVe (w:World) (v:Value) (l:List (Sec×Int)):Prop:=w.ownsRow 0 75 2 v l.length (kcs l)
section
variable {w w':World} {v:Value} {l:List (Sec×Int)}
theorem OVe.nil (w:World):OVe w (.slice none 0 0) []:=World.ownsRow_nil w 0 _ 2
theorem OVe.kept {S:List Nat} (h:OVe w v l) (ho:Only S w w') (hs:∀ k∈S,v.ownBlock≠some k):OVe w' v l:=by
 refine ⟨h.1,?_⟩
 rcases h.2 with hn | ⟨g,cap,cur,rfl,hb,hg,r⟩
 ·exact .inl hn
 ·exact .inr ⟨g,cap,cur,rfl,hb,ho.heap hg (fun e=>hs g e rfl),r⟩
theorem OVe.shape (h:OVe w v l):∃ a cap,v=.slice a l.length cap:=by
 rcases h.2 with ⟨rfl,hn⟩ | ⟨g,cap,cur,rfl,hb,hg,r⟩
 ·exact ⟨none,0,by rw [hn]⟩
 ·exact ⟨_,_,rfl⟩
theorem OVe.ty {k:Nat} {t:TypeId} {c:Array Value} {fr:Nat×Nat} (h:OVe w v l) (hk:v.ownBlock=some k) (hg:w.heap[k]?=some (.cells c t fr)):t=75:=by
 rcases h.2 with ⟨rfl,_⟩ | ⟨g,cap,cur,rfl,hb,hg',r⟩
 ·cases hk
 ·obtain rfl:g=k:=by simpa [Value.ownBlock] using hk
  rw [hg'] at hg
  simp only [Option.some.injEq,Obj.cells.injEq] at hg
  exact hg.2.1.symm
theorem OVe.at_ (h:OVe w v l) {i:Nat} {x:Sec×Int} (hi:l[i]?=some x):∃ g cap,v=.slice (some ⟨g,0,none⟩) l.length cap∧w.cell? ⟨g,i*2,none⟩=some (.string (strOf x.1))∧w.cell? ⟨g,i*2+1,none⟩=some (.int .i64 x.2):=by
 have hlt:i < l.length:=(List.getElem?_eq_some_iff.1 hi).1
 rcases h.2 with ⟨rfl,hn⟩ | ⟨g,cap,cur,rfl,hb,hg,hc,_,hz,ht⟩
 ·omega
 ·refine ⟨g,cap,rfl,?_,?_⟩
  ·rw [cell_at _ hg]
   have h1:=kcs_get0 l i x hi
   rw [← ht,List.getElem?_take_of_lt (by omega)] at h1
   simpa using h1
  ·rw [cell_at _ hg]
   have h1:=kcs_get1 l i x hi
   rw [← ht,List.getElem?_take_of_lt (by omega)] at h1
   simpa using h1
end
theorem info_ve:(Try.prog.info? 75).map (fun i=>(i.zero,i.size,i.bytes))=some (some (.agg #[.string ⟨#[]⟩,.int .i64 0]),2,24):=by kernel_rfl
theorem run_append_ve {w:World} (ty:TypeId) (v:Value) (l:List (Sec×Int)) (hown:OVe w v l) (bx capx:Nat) (x:Sec×Int) (h0:w.cell? ⟨bx,0,none⟩=some (.string (strOf x.1))) (h1:w.cell? ⟨bx,1,none⟩=some (.int .i64 x.2)) (hn:l.length≤1048576) :
  ∃ a cap w',(Builtin.append_ #[73,73] ty #[v,.slice (some ⟨bx,0,none⟩) 1 capx]).run Try.prog w=.ok (.slice a (l.length+1) cap) w'∧OVe w' (.slice a (l.length+1) cap) (l++[x])∧Ext w v w' (.slice a (l.length+1) cap):=by
 obtain ⟨i,hi,hz⟩:=Option.map_eq_some_iff.1 info_ve
 simp only [Prod.mk.injEq] at hz
 obtain ⟨z1,z2,z3⟩:=hz
 have hcell:∀ (j:Nat) (u:Value),([.string (strOf x.1),.int .i64 x.2]:List Value)[j]?=some u→w.cell? ((⟨bx,0,none⟩:Addr).add j)=some u:=fun j u hj=>by
  match j with
  | 0=>
   simp at hj
   subst hj
   have:(⟨bx,0,none⟩:Addr).add 0=⟨bx,0,none⟩:=by simp [Addr.add]
   rw [this]
   exact h0
  | 1=>
   simp at hj
   subst hj
   have:(⟨bx,0,none⟩:Addr).add 1=⟨bx,1,none⟩:=by simp [Addr.add]
   rw [this]
   exact h1
  | j+2=>simp at hj
 obtain ⟨v',w',hr,k1,k2,_,k5⟩:=run_append_own_at (P:=Try.prog) w 0 73 ty 75 i (.agg #[.string ⟨#[]⟩,.int .i64 0]) 2 24 Try.underlying73 hi z1 z2 z3 rfl (by omega) v l.length (kcs l) hown ⟨bx,0,none⟩ 1 capx [.string (strOf x.1),.int .i64 x.2] rfl hcell (by simp [Value.oneCell']) (by unfold maxLen;omega) (by omega) (Nat.zero_le _)
 have hsh:∃ a cap,v'=.slice a (l.length+1) cap:=by
  rcases k1.2 with ⟨_,hn⟩ | ⟨g,cap,cur,rfl,_⟩
  ·omega
  ·exact ⟨_,_,rfl⟩
 obtain ⟨a,cap,rfl⟩:=hsh
 refine ⟨a,cap,w',hr,?_,Only.of_grown k2,fun g hg=>?_⟩
 ·unfold OVe
  rw [kcs_snoc,List.length_append]
  exact k1
 ·rcases k5 with k5 | k5
  ·exact .inl (by rw [← k5];exact hg)
  ·rw [k5] at hg
   exact .inr (Nat.le_of_eq (Option.some.inj hg))
section
variable {w:World} {ops:Array Oper} {rest:List Oper} {o:Oper} {a:Act} {Q:Exit→Act→World→Prop}
theorem step_append_ve {K:Act→World→Prop} {E:Prop} (hg:o.guard=none) (s x:Operand) (hop:o.op=Op.call {callee:=Callee.builtin Builtin.append,args:=#[s,x],argTypes:=#[73,73] })
  (v:Value) (l:List (Sec×Int)) (hs:a.eval s=v) (hown:OVe w v l) (bx capx:Nat) (hx:a.eval x=.slice (some ⟨bx,0,none⟩) 1 capx) (y:Sec×Int) (h0:w.cell? ⟨bx,0,none⟩=some (.string (strOf y.1))) (h1:w.cell? ⟨bx,1,none⟩=some (.int .i64 y.2)) (hn:l.length≤1048576)
  (hK:∀ a' cap w',OVe w' (.slice a' (l.length+1) cap) (l++[y])→Ext w v w' (.slice a' (l.length+1) cap)→K (a.put o.dst (.slice a' (l.length+1) cap)) w') :
  if Region.wanted o (yielded ops a.tmps)=true then Oper.wp Try.prog o a w K Q else E:=by
 have hw:Region.wanted o (yielded ops a.tmps)=true:=by simp [Region.wanted,hg]
 rw [if_pos hw]
 obtain ⟨a',cap,w',hrun,k1,k2⟩:=run_append_ve o.type v l hown bx capx y h0 h1 hn
 unfold Oper.wp
 simp [execOp,hop,resolve,invoke,builtin,hs,hx,hrun,Result.andThen]
 exact hK a' cap w' k1 k2
end
theorem OVe.made (w:World) (x:Sec×Int):OVe (w.alloc (.cells #[.string (strOf x.1),.int .i64 x.2] 75)) (.slice (some ⟨w.heap.size,0,none⟩) 1 1) [x]:=
 ⟨rfl,.inr ⟨w.heap.size,1,_,rfl,Nat.zero_le _,heap_new w _,Nat.le_refl _,by unfold maxLen;omega,rfl,by simp [kcs]⟩⟩
theorem run_append_ves {w:World} (ty:TypeId) (v x:Value) (l r:List (Sec×Int)) (hown:OVe w v l) (hx:OVe w x r) (hn:l.length+r.length≤1048576) :
  ∃ a cap w',(Builtin.append_ #[73,73] ty #[v,x]).run Try.prog w=.ok (.slice a (l.length+r.length) cap) w'∧OVe w' (.slice a (l.length+r.length) cap) (l++r)∧Ext w v w' (.slice a (l.length+r.length) cap):=by
 obtain ⟨i,hi,hz⟩:=Option.map_eq_some_iff.1 info_ve
 simp only [Prod.mk.injEq] at hz
 obtain ⟨z1,z2,z3⟩:=hz
 by_cases h0:r.length=0
 ·obtain rfl:r=[]:=List.eq_nil_of_length_eq_zero h0
  obtain ⟨a,cap,rfl⟩:=hown.shape
  obtain ⟨ao,capx,rfl⟩:=hx.shape
  refine ⟨a,cap,w,run_append_empty (P:=Try.prog) 0 73 ty 75 i 2 Try.underlying73 hi _ _ _ hown ao capx,by simpa using hown,by simpa using Ext.refl w _⟩
 ·rcases hx.2 with ⟨_,hn0⟩ | ⟨g,capx,cur,rfl,_,hg,hcap,_,hsz,htk⟩
  ·omega
  have hcell:∀ (j:Nat) (u:Value),(kcs r)[j]?=some u→w.cell? ((⟨g,0,none⟩:Addr).add j)=some u:=fun j u hj=>by
   have hadd:(⟨g,0,none⟩:Addr).add j=⟨g,j,none⟩:=by unfold Addr.add;split<;>simp_all
   have hlt:j < (kcs r).length:=(List.getElem?_eq_some_iff.1 hj).1
   rw [kcs_length] at hlt
   rw [hadd,cell_at _ hg]
   rw [← htk,List.getElem?_take_of_lt (by omega)] at hj
   simpa using hj
  obtain ⟨v',w',hr,k1,k2,_,k5⟩:=run_append_own_at (P:=Try.prog) w 0 73 ty 75 i (.agg #[.string ⟨#[]⟩,.int .i64 0]) 2 24 Try.underlying73 hi z1 z2 z3 rfl (by omega) v l.length (kcs l) hown ⟨g,0,none⟩ r.length capx (kcs r) (by rw [kcs_length,Nat.mul_comm]) hcell (kcs_one r) (by unfold maxLen;omega) (by omega) (Nat.zero_le _)
  have hsh:∃ a cap,v'=.slice a (l.length+r.length) cap:=by
   rcases k1.2 with ⟨_,hn⟩ | ⟨g,cap,cur,rfl,_⟩
   ·omega
   ·exact ⟨_,_,rfl⟩
  obtain ⟨a,cap,rfl⟩:=hsh
  refine ⟨a,cap,w',hr,?_,Only.of_grown k2,fun g hg=>?_⟩
  ·unfold OVe
   rw [kcs_append,List.length_append]
   exact k1
  ·rcases k5 with k5 | k5
   ·exact .inl (by rw [← k5];exact hg)
   ·rw [k5] at hg
    exact .inr (Nat.le_of_eq (Option.some.inj hg))
section
variable {w:World} {ops:Array Oper} {rest:List Oper} {o:Oper} {a:Act} {Q:Exit→Act→World→Prop}
theorem step_append_ves {K:Act→World→Prop} {E:Prop} (hg:o.guard=none) (s x:Operand) (hop:o.op=Op.call {callee:=Callee.builtin Builtin.append,args:=#[s,x],argTypes:=#[73,73] })
  (v xv:Value) (l r:List (Sec×Int)) (hs:a.eval s=v) (hown:OVe w v l) (hx:a.eval x=xv) (hr:OVe w xv r) (hn:l.length+r.length≤1048576)
  (hK:∀ a' cap w',OVe w' (.slice a' (l.length+r.length) cap) (l++r)→Ext w v w' (.slice a' (l.length+r.length) cap)→K (a.put o.dst (.slice a' (l.length+r.length) cap)) w') :
  if Region.wanted o (yielded ops a.tmps)=true then Oper.wp Try.prog o a w K Q else E:=by
 have hw:Region.wanted o (yielded ops a.tmps)=true:=by simp [Region.wanted,hg]
 rw [if_pos hw]
 obtain ⟨a',cap,w',hrun,k1,k2⟩:=run_append_ves o.type v xv l r hown hr hn
 unfold Oper.wp
 simp [execOp,hop,resolve,invoke,builtin,hs,hx,hrun,Result.andThen]
 exact hK a' cap w' k1 k2
end
section
variable {w:World} {ops:Array Oper} {rest:List Oper} {o:Oper} {a:Act} {Q:Exit→Act→World→Prop}
theorem wpList_append_ve (hg:o.guard=none) (s x:Operand) (hop:o.op=Op.call {callee:=Callee.builtin Builtin.append,args:=#[s,x],argTypes:=#[73,73] })
  (v:Value) (l:List (Sec×Int)) (hs:a.eval s=v) (hown:OVe w v l) (bx capx:Nat) (hx:a.eval x=.slice (some ⟨bx,0,none⟩) 1 capx) (y:Sec×Int) (h0:w.cell? ⟨bx,0,none⟩=some (.string (strOf y.1))) (h1:w.cell? ⟨bx,1,none⟩=some (.int .i64 y.2)) (hn:l.length≤1048576)
  (hK:∀ a' cap w',OVe w' (.slice a' (l.length+1) cap) (l++[y])→Ext w v w' (.slice a' (l.length+1) cap)→wpList Try.prog ops Q rest (a.put o.dst (.slice a' (l.length+1) cap)) w'):wpList Try.prog ops Q (o :: rest) a w:=by
 refine wpList_plain hg fun K' hK'=>?_
 obtain ⟨a',cap,w',hrun,k1,k2⟩:=run_append_ve o.type v l hown bx capx y h0 h1 hn
 unfold Oper.wp
 simp [execOp,hop,resolve,invoke,builtin,hs,hx,hrun,Result.andThen]
 exact hK' _ _ (hK _ _ w' k1 k2)
theorem wpList_append_ves (hg:o.guard=none) (s x:Operand) (hop:o.op=Op.call {callee:=Callee.builtin Builtin.append,args:=#[s,x],argTypes:=#[73,73] })
  (v xv:Value) (l r:List (Sec×Int)) (hs:a.eval s=v) (hown:OVe w v l) (hx:a.eval x=xv) (hr:OVe w xv r) (hn:l.length+r.length≤1048576)
  (hK:∀ a' cap w',OVe w' (.slice a' (l.length+r.length) cap) (l++r)→Ext w v w' (.slice a' (l.length+r.length) cap)→wpList Try.prog ops Q rest (a.put o.dst (.slice a' (l.length+r.length) cap)) w'):wpList Try.prog ops Q (o :: rest) a w:=by
 refine wpList_plain hg fun K' hK'=>?_
 obtain ⟨a',cap,w',hrun,k1,k2⟩:=run_append_ves o.type v xv l r hown hr hn
 unfold Oper.wp
 simp [execOp,hop,resolve,invoke,builtin,hs,hx,hrun,Result.andThen]
 exact hK' _ _ (hK _ _ w' k1 k2)
end
theorem OVe.empty (w:World):OVe (w.alloc (.cells #[] 75)) (.slice (some ⟨w.heap.size,0,none⟩) 0 0) []:=
 ⟨rfl,.inr ⟨w.heap.size,0,_,rfl,Nat.zero_le _,heap_new w _,Nat.le_refl _,by unfold maxLen;omega,rfl,rfl⟩⟩
def OCe (w:World) (v:Value) (l:List Int):Prop:=w.ownsRow 0 3 1 v l.length (iv l)
section
variable {w w':World} {v:Value} {l:List Int}
theorem OCe.kept {S:List Nat} (h:OCe w v l) (ho:Only S w w') (hs:∀ k∈S,v.ownBlock≠some k):OCe w' v l:=owns_kept h ho hs
theorem OCe.shape (h:OCe w v l):∃ a cap,v=.slice a l.length cap:=by
 rcases h.2 with ⟨rfl,hn⟩ | ⟨g,cap,cur,rfl,hb,hg,r⟩
 ·exact ⟨none,0,by rw [hn]⟩
 ·exact ⟨_,_,rfl⟩
theorem OCe.empty (w:World):OCe (w.alloc (.cells #[] 3)) (.slice (some ⟨w.heap.size,0,none⟩) 0 0) []:=
 ⟨rfl,.inr ⟨w.heap.size,0,_,rfl,Nat.zero_le _,heap_new w _,Nat.le_refl _,by unfold maxLen;omega,rfl,rfl⟩⟩
end
theorem run_append_ces {w:World} (ty:TypeId) (v:Value) (l:List Int) (hown:OCe w v l) (b off capx:Nat) (m:List Int) (hm:∀ j z,m[j]?=some z→w.cell? ⟨b,off+j,none⟩=some (.int .i64 z)) (hn:l.length+m.length≤1048576) (h0:0 < m.length) :
  ∃ a cap w',(Builtin.append_ #[22,22] ty #[v,.slice (some ⟨b,off,none⟩) m.length capx]).run Try.prog w=.ok (.slice a (l.length+m.length) cap) w'∧OCe w' (.slice a (l.length+m.length) cap) (l++m)∧Ext w v w' (.slice a (l.length+m.length) cap):=by
 obtain ⟨i,hi,hz⟩:=Option.map_eq_some_iff.1 info_int
 simp only [Prod.mk.injEq] at hz
 obtain ⟨z1,z2,z3⟩:=hz
 have hcell:∀ (j:Nat) (u:Value),(iv m)[j]?=some u→w.cell? ((⟨b,off,none⟩:Addr).add j)=some u:=fun j u hj=>by
  have hadd:(⟨b,off,none⟩:Addr).add j=⟨b,off+j,none⟩:=by simp [Addr.add]
  rw [hadd]
  unfold iv at hj
  rw [List.getElem?_map] at hj
  cases hz:m[j]? with
  | none=>rw [hz] at hj;cases hj
  | some z=>
   rw [hz] at hj
   cases hj
   exact hm j z hz
 obtain ⟨v',w',hr,k1,k2,_,k5⟩:=run_append_own_at (P:=Try.prog) w 0 22 ty 3 i (.int .i64 0) 1 8 Try.underlying22 hi z1 z2 z3 rfl (by omega) v l.length (iv l) hown ⟨b,off,none⟩ m.length capx (iv m) (by rw [iv_length];omega) hcell (by intro u hu;simp only [iv,List.mem_map] at hu;obtain ⟨z,_,rfl⟩:=hu;rfl) (by unfold maxLen;omega) (by omega) (Nat.zero_le _)
 have hsh:∃ a cap,v'=.slice a (l.length+m.length) cap:=by
  rcases k1.2 with ⟨_,hn⟩ | ⟨g,cap,cur,rfl,_⟩
  ·omega
  ·exact ⟨_,_,rfl⟩
 obtain ⟨a,cap,rfl⟩:=hsh
 refine ⟨a,cap,w',hr,?_,Only.of_grown k2,fun g hg=>?_⟩
 ·have e:iv (l++m)=iv l++iv m:=by simp [iv]
  unfold OCe
  rw [e,List.length_append]
  exact k1
 ·rcases k5 with k5 | k5
  ·exact .inl (by rw [← k5];exact hg)
  ·rw [k5] at hg
   exact .inr (Nat.le_of_eq (Option.some.inj hg))
end Go.Proofs.Ytiaeagpepfmfgaa
namespace Go.Proofs.Ytiaeagpepfmfgaa
open Go.RowKit Go.Maps
set_option linter.unusedSimpArgs false
set_option linter.unusedVariables false
theorem rtruth_any (b:Bool) (w:World):Calls Try.prog 52 #[.bool b] w fun e w'=>e=.returned (.int .i64 (bI b))∧w=w':=by
 cases b
 ·go_enter Try.func52,Try.ntmps52
  go_wp2
  go_ret
  exact ⟨rfl,rfl⟩
 ·go_enter Try.func52,Try.ntmps52
  go_wp2
  go_ret
  exact ⟨rfl,rfl⟩
theorem div_m1 (a:Int):opV [47] a (-1)=wrap64 (-a):=by
 rw [opV_div _ (by decide),Int.tdiv_neg,Int.tdiv_one]
theorem mod_m1 (a:Int):opV [37] a (-1)=0:=by
 rw [opV_mod _ (by decide),Int.tmod_neg,Int.tmod_one]
 unfold wrap64
 omega
set_option maxRecDepth 100000 in
theorem divide_any (a b:Int) (w:World) (hb:n64 b):Calls Try.prog 75 #[.int .i64 a,.int .i64 b] w fun e w'=>e=.returned (.tuple #[.int .i64 (opV [47] a b),.int .i64 (opV [37] a b)])∧Only [] w w':=by
 by_cases h0:b=0
 ·subst h0
  rw [opV_div0,opV_mod0]
  go_enter Try.func75,Try.ntmps75
  go_wp2_with fail
  go_ret2
  exact ⟨rfl,Only.refl _ _⟩
 ·have h0':(b == 0)=false:=by simpa using h0
  by_cases h1:b=-1
  ·subst h1
   rw [div_m1,mod_m1]
   go_enter Try.func75,Try.ntmps75
   go_wp2_with fail
   go_ret2
   exact ⟨rfl,Only.refl _ _⟩
  ·have h1':(b == -1)=false:=by simpa using h1
   have v1:=opV_div a h0
   have v2:=opV_mod a h0
   rw [wrap_tmod a hb h0] at v2
   rw [v1,v2]
   clear v1 v2
   go_enter Try.func75,Try.ntmps75
   go_wp2_with fail
   go_quiet (fail)
   go_wp2_with fail
   go_ret2
   exact ⟨rfl,only_drewN' (Only.refl [] w)⟩
theorem not_lt_b (a b:Int):decide (a≤b)=!decide (b < a):=by
 by_cases h:a≤b
 ·have:¬ b < a:=by omega
  simp [h,this]
 ·have:b < a:=by omega
  simp [h,this]
set_option maxRecDepth 100000 in
set_option maxHeartbeats 4000000 in
theorem roperate_any (s:ByteArray) (a b:Int) (w:World) (hn:n64 b) (hs:s.data.toList∈ops7) :
  Calls Try.prog 53 #[.string s,.int .i64 a,.int .i64 b] w fun e w'=>e=.returned (.int .i64 (opV s.data.toList a b))∧Only [] w w':=by
 simp only [ops7,List.mem_cons,List.not_mem_nil,or_false] at hs
 rcases hs with h | h | h | h | h | h | h | h | h | h | h | h | h<;>obtain rfl:=str_eq_iff.2 h<;>clear h
 ·by_cases ha:a=0
  ·subst ha
   have hv:opV [124,124] 0 b=bI (b != 0):=by rw [opV_or,show ((0:Int) != 0)=false from rfl,Bool.false_or]
   generalize opV [124,124] 0 b=T at hv⊢
   go_enter Try.func53,Try.ntmps53
   go_wp2_with fail
   refine (divide_any 0 b w hn).mono ?_
   rintro e w1 ⟨rfl,o1⟩
   have HO:=Hd o1
   clear o1
   go_wp2_with fail
   refine (rtruth_any _ _).mono ?_
   rintro e w2 ⟨rfl,rfl⟩
   rw [← hv]
   clear hv
   go_wp2_with fail
   go_ret
   exact ⟨rfl,HO.out⟩
  ·have ha':(a != 0)=true:=by simpa using ha
   have hv:opV [124,124] a b=bI true:=by rw [opV_or,ha',Bool.true_or]
   generalize opV _ _ _=T at hv⊢
   go_enter Try.func53,Try.ntmps53
   go_wp2_with fail
   refine (divide_any a b w hn).mono ?_
   rintro e w1 ⟨rfl,o1⟩
   have HO:=Hd o1
   clear o1
   go_wp2_with fail
   refine (rtruth_any _ _).mono ?_
   rintro e w2 ⟨rfl,rfl⟩
   rw [← hv]
   clear hv
   go_wp2_with fail
   go_ret
   exact ⟨rfl,HO.out⟩
 ·by_cases ha:a=0
  ·subst ha
   have hv:opV [38,38] 0 b=bI false:=by rw [opV_and,show ((0:Int) != 0)=false from rfl,Bool.false_and]
   generalize opV [38,38] 0 b=T at hv⊢
   go_enter Try.func53,Try.ntmps53
   go_wp2_with fail
   refine (divide_any 0 b w hn).mono ?_
   rintro e w1 ⟨rfl,o1⟩
   have HO:=Hd o1
   clear o1
   go_wp2_with fail
   refine (rtruth_any _ _).mono ?_
   rintro e w2 ⟨rfl,rfl⟩
   rw [← hv]
   clear hv
   go_wp2_with fail
   go_ret
   exact ⟨rfl,HO.out⟩
  ·have ha':(a != 0)=true:=by simpa using ha
   have hv:opV [38,38] a b=bI (b != 0):=by rw [opV_and,ha',Bool.true_and]
   generalize opV _ _ _=T at hv⊢
   go_enter Try.func53,Try.ntmps53
   go_wp2_with fail
   refine (divide_any a b w hn).mono ?_
   rintro e w1 ⟨rfl,o1⟩
   have HO:=Hd o1
   clear o1
   go_wp2_with fail
   refine (rtruth_any _ _).mono ?_
   rintro e w2 ⟨rfl,rfl⟩
   rw [← hv]
   clear hv
   go_wp2_with fail
   go_ret
   exact ⟨rfl,HO.out⟩
 ·have hv:=opV_lt a b
  generalize opV _ _ _=T at hv⊢
  go_enter Try.func53,Try.ntmps53
  go_wp2_with fail
  refine (divide_any a b w hn).mono ?_
  rintro e w1 ⟨rfl,o1⟩
  have HO:=Hd o1
  clear o1
  go_wp2_with fail
  refine (rtruth_any _ _).mono ?_
  rintro e w2 ⟨rfl,rfl⟩
  rw [← hv]
  clear hv
  go_wp2_with fail
  go_ret
  exact ⟨rfl,HO.out⟩
 ·have hv:opV [60,61] a b=bI (!decide (b < a)):=by rw [opV_le,not_lt_b]
  generalize opV _ _ _=T at hv⊢
  go_enter Try.func53,Try.ntmps53
  go_wp2_with fail
  refine (divide_any a b w hn).mono ?_
  rintro e w1 ⟨rfl,o1⟩
  have HO:=Hd o1
  clear o1
  go_wp2_with fail
  refine (rtruth_any _ _).mono ?_
  rintro e w2 ⟨rfl,rfl⟩
  rw [← hv]
  clear hv
  go_wp2_with fail
  go_ret
  exact ⟨rfl,HO.out⟩
 ·have hv:=opV_gt a b
  generalize opV _ _ _=T at hv⊢
  go_enter Try.func53,Try.ntmps53
  go_wp2_with fail
  refine (divide_any a b w hn).mono ?_
  rintro e w1 ⟨rfl,o1⟩
  have HO:=Hd o1
  clear o1
  go_wp2_with fail
  refine (rtruth_any _ _).mono ?_
  rintro e w2 ⟨rfl,rfl⟩
  rw [← hv]
  clear hv
  go_wp2_with fail
  go_ret
  exact ⟨rfl,HO.out⟩
 ·have hv:opV [62,61] a b=bI (!decide (a < b)):=by rw [opV_ge,not_lt_b]
  generalize opV _ _ _=T at hv⊢
  go_enter Try.func53,Try.ntmps53
  go_wp2_with fail
  refine (divide_any a b w hn).mono ?_
  rintro e w1 ⟨rfl,o1⟩
  have HO:=Hd o1
  clear o1
  go_wp2_with fail
  refine (rtruth_any _ _).mono ?_
  rintro e w2 ⟨rfl,rfl⟩
  rw [← hv]
  clear hv
  go_wp2_with fail
  go_ret
  exact ⟨rfl,HO.out⟩
 ·have hv:=opV_eq a b
  generalize opV _ _ _=T at hv⊢
  go_enter Try.func53,Try.ntmps53
  go_wp2_with fail
  refine (divide_any a b w hn).mono ?_
  rintro e w1 ⟨rfl,o1⟩
  have HO:=Hd o1
  clear o1
  go_wp2_with fail
  refine (rtruth_any _ _).mono ?_
  rintro e w2 ⟨rfl,rfl⟩
  rw [← hv]
  clear hv
  go_wp2_with fail
  go_ret
  exact ⟨rfl,HO.out⟩
 ·have hv:=opV_ne a b
  generalize opV _ _ _=T at hv⊢
  go_enter Try.func53,Try.ntmps53
  go_wp2_with fail
  refine (divide_any a b w hn).mono ?_
  rintro e w1 ⟨rfl,o1⟩
  have HO:=Hd o1
  clear o1
  go_wp2_with fail
  refine (rtruth_any _ _).mono ?_
  rintro e w2 ⟨rfl,rfl⟩
  rw [← hv]
  clear hv
  go_wp2_with fail
  go_ret
  exact ⟨rfl,HO.out⟩
 ·have hv:=opV_add a b
  generalize opV _ _ _=T at hv⊢
  go_enter Try.func53,Try.ntmps53
  go_wp2_with fail
  refine (divide_any a b w hn).mono ?_
  rintro e w1 ⟨rfl,o1⟩
  have HO:=Hd o1
  clear o1
  go_wp2_with fail
  go_ret
  exact ⟨by rw [hv]<;>rfl,HO.out⟩
 ·have hv:=opV_sub a b
  generalize opV _ _ _=T at hv⊢
  go_enter Try.func53,Try.ntmps53
  go_wp2_with fail
  refine (divide_any a b w hn).mono ?_
  rintro e w1 ⟨rfl,o1⟩
  have HO:=Hd o1
  clear o1
  go_wp2_with fail
  go_ret
  exact ⟨by rw [hv]<;>rfl,HO.out⟩
 ·have hv:=opV_mul a b
  generalize opV _ _ _=T at hv⊢
  go_enter Try.func53,Try.ntmps53
  go_wp2_with fail
  refine (divide_any a b w hn).mono ?_
  rintro e w1 ⟨rfl,o1⟩
  have HO:=Hd o1
  clear o1
  go_wp2_with fail
  go_ret
  exact ⟨by rw [hv]<;>rfl,HO.out⟩
 ·have hv:opV [47] a b=opV [47] a b:=rfl
  obtain ⟨T,hT⟩:∃ T,T=opV [47] a b:=⟨_,rfl⟩
  have K:=divide_any a b w hn
  rw [← hT] at K
  show Calls _ _ _ _ fun e w'=>e=.returned (.int .i64 (opV [47] a b))∧Only [] w w'
  rw [← hT]
  clear hv hT
  go_enter Try.func53,Try.ntmps53
  go_wp2_with fail
  refine K.mono ?_
  rintro e w1 ⟨rfl,o1⟩
  have HO:=Hd o1
  clear o1 K
  go_wp2_with fail
  go_ret
  exact ⟨rfl,HO.out⟩
 ·obtain ⟨T,hT⟩:∃ T,T=opV [37] a b:=⟨_,rfl⟩
  have K:=divide_any a b w hn
  rw [← hT] at K
  show Calls _ _ _ _ fun e w'=>e=.returned (.int .i64 (opV [37] a b))∧Only [] w w'
  rw [← hT]
  clear hT
  go_enter Try.func53,Try.ntmps53
  go_wp2_with fail
  refine K.mono ?_
  rintro e w1 ⟨rfl,o1⟩
  have HO:=Hd o1
  clear o1 K
  go_wp2_with fail
  go_ret
  exact ⟨rfl,HO.out⟩
end Go.Proofs.Ytiaeagpepfmfgaa
