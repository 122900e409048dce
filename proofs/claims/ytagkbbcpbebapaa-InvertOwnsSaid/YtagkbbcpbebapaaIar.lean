import Derived.Test.YtagkbbcpbebapaaK13r
import Derived.Test.YtagkbbcpbebapaaQar
import Derived.Test.YtagkbbcpbebapaaK14r
import Derived.Test.YtagkbbcpbebapaaIbr
import Derived.Test.YtagkbbcpbebapaaWar
import Derived.WalkMore
import Derived.Deep.LoopGhost
import Derived.Deep.Cut
namespace Go.Proofs.Ytagkbbcpbebapaa
open Go.RowKit Go.Maps
set_option linter.unusedSimpArgs false
set_option linter.unusedVariables false
theorem nilE_yes (n c:Nat) (w:World):(binOp .eql 24 (.slice none n c) (.slice none 0 0)).run Try.prog w=.ok (.bool true) w:=by kernel_rfl
theorem nilE_no (ad:Addr) (n c:Nat) (w:World):(binOp .eql 24 (.slice (some ad) n c) (.slice none 0 0)).run Try.prog w=.ok (.bool false) w:=by kernel_rfl
theorem nilS_yes (n c:Nat) (w:World):(binOp .eql 25 (.slice none n c) (.slice none 0 0)).run Try.prog w=.ok (.bool true) w:=by kernel_rfl
theorem nilS_no (ad:Addr) (n c:Nat) (w:World):(binOp .eql 25 (.slice (some ad) n c) (.slice none 0 0)).run Try.prog w=.ok (.bool false) w:=by kernel_rfl
theorem nilN_yes (n c:Nat) (w:World):(binOp .eql 23 (.slice none n c) (.slice none 0 0)).run Try.prog w=.ok (.bool true) w:=by kernel_rfl
theorem nilN_no (ad:Addr) (n c:Nat) (w:World):(binOp .eql 23 (.slice (some ad) n c) (.slice none 0 0)).run Try.prog w=.ok (.bool false) w:=by kernel_rfl
theorem EsAt.flat {w:World} {B:Nat→Prop} {g:Nat}:∀ (xs:List E) (i:Nat),EsAt w B g i xs→∃ css:List (List Value),css.length=xs.length∧(∀ (j:Nat) (x:E) (cs:List Value),xs[j]?=some x→css[j]?=some cs→EV w B x cs)∧∀ (j:Nat) (u:Value),css.flatten[j]?=some u→w.cell? ⟨g,i*5+j,none⟩=some u
 | [],i,_=>⟨[],rfl,by simp,by simp⟩
 | x :: xs,i,h=>by
  unfold EsAt at h
  obtain ⟨⟨cs,h1,h2⟩,h3⟩:=h
  obtain ⟨css,e1,e2,e3⟩:=EsAt.flat xs (i+1) h3
  have hl:=h1.len
  refine ⟨cs :: css,by simp [e1],fun j y cs' hy hc=>?_,fun j u hu=>?_⟩
  ·cases j with
   | zero=>
    simp at hy hc
    subst hy hc
    exact h1
   | succ j=>exact e2 j y cs' (by simpa using hy) (by simpa using hc)
  ·rw [List.flatten_cons] at hu
   rcases Nat.lt_or_ge j 5 with hj | hj
   ·rw [List.getElem?_append_left (by omega)] at hu
    rw [h2 j hj,hu]
   ·rw [List.getElem?_append_right (by omega)] at hu
    have:=e3 _ u hu
    rw [hl] at this
    rw [show i*5+j=(i+1)*5+(j - 5) by omega]
    exact this
theorem SsAt.flat {w:World} {B:Nat→Prop} {g:Nat}:∀ (xs:List St) (i:Nat),SsAt w B g i xs→∃ css:List (List Value),css.length=xs.length∧(∀ (j:Nat) (x:St) (cs:List Value),xs[j]?=some x→css[j]?=some cs→SV w B x cs)∧∀ (j:Nat) (u:Value),css.flatten[j]?=some u→w.cell? ⟨g,i*7+j,none⟩=some u
 | [],i,_=>⟨[],rfl,by simp,by simp⟩
 | x :: xs,i,h=>by
  unfold SsAt at h
  obtain ⟨⟨cs,h1,h2⟩,h3⟩:=h
  obtain ⟨css,e1,e2,e3⟩:=SsAt.flat xs (i+1) h3
  have hl:=h1.len
  refine ⟨cs :: css,by simp [e1],fun j y cs' hy hc=>?_,fun j u hu=>?_⟩
  ·cases j with
   | zero=>
    simp at hy hc
    subst hy hc
    exact h1
   | succ j=>exact e2 j y cs' (by simpa using hy) (by simpa using hc)
  ·rw [List.flatten_cons] at hu
   rcases Nat.lt_or_ge j 7 with hj | hj
   ·rw [List.getElem?_append_left (by omega)] at hu
    rw [h2 j hj,hu]
   ·rw [List.getElem?_append_right (by omega)] at hu
    have:=e3 _ u hu
    rw [hl] at this
    rw [show i*7+j=(i+1)*7+(j - 7) by omega]
    exact this
theorem EV.plainCells {w:World} {B:Nat→Prop} {x:E} {cs:List Value} (h:EV w B x cs):∀ u∈cs,u.oneCell'=true:=by
 cases x
 unfold EV at h
 obtain ⟨a,cap,rfl,_⟩:=h
 simp [Value.oneCell']
theorem SV.plainCells {w:World} {B:Nat→Prop} {x:St} {cs:List Value} (h:SV w B x cs):∀ u∈cs,u.oneCell'=true:=by
 cases x
 unfold SV at h
 obtain ⟨va,a1,c1,a2,c2,rfl,⟨a0,c0,rfl,_⟩,_⟩:=h
 simp [Value.oneCell']
theorem flat_len {css:List (List Value)} {k:Nat} (h:∀ cs∈css,cs.length=k):css.flatten.length=css.length*k:=by
 induction css with
 | nil=>simp
 | cons c css ih=>
  rw [List.flatten_cons,List.length_append,ih (fun x hx=>h x (by simp [hx])),h c (by simp),List.length_cons,Nat.add_mul]
  omega
theorem all_css {α:Type} {xs:List α} {css:List (List Value)} {P:α→List Value→Prop} {Q:List Value→Prop} (hl:css.length=xs.length) (h:∀ (j:Nat) (x:α) (cs:List Value),xs[j]?=some x→css[j]?=some cs→P x cs) (hq:∀ x cs,P x cs→Q cs):∀ cs∈css,Q cs:=by
 intro cs hcs
 obtain ⟨i,hi,rfl⟩:=List.mem_iff_getElem.1 hcs
 exact hq _ _ (h i xs[i] css[i] (List.getElem?_eq_getElem (by omega)) (List.getElem?_eq_getElem hi))
def CEx (w:World) (base:Nat) (v:Value) (B:Nat→Prop) (xs:List E):Prop:=
 ∃ a cap,v=.slice a xs.length cap∧xs.length≤cap∧(xs=[]∨∃ g cur,a=some ⟨g,0,none⟩∧base≤g∧w.heap[g]?=some (.cells cur 74 (0,0))∧EsAt w B g 0 xs)
def CSt (w:World) (base:Nat) (v:Value) (B:Nat→Prop) (xs:List St):Prop:=
 ∃ a cap,v=.slice a xs.length cap∧xs.length≤cap∧(xs=[]∨∃ g cur,a=some ⟨g,0,none⟩∧base≤g∧w.heap[g]?=some (.cells cur 61 (0,0))∧xs.length*7≤cur.size∧SsAt w B g 0 xs)
section
variable {w:World} {ops:Array Oper} {rest:List Oper} {o:Oper} {a:Act} {Q:Exit→Act→World→Prop}
theorem wpList_clone_ex (hg:o.guard=none) (s x:Operand) (hop:o.op=Op.call {callee:=Callee.builtin Builtin.append,args:=#[s,x],argTypes:=#[24,24] })
  (gb:Nat) (hs:a.eval s=.slice (some ⟨gb,0,none⟩) 0 0) (hb:w.heap[gb]?=some (.cells #[] 74 (0,0))) (base:Nat) (hgb:base≤gb) (ad:Addr) (n cap:Nat) (B:Nat→Prop) (xs:List E) (hx:a.eval x=.slice (some ad) n cap) (hv:EsV w B (.slice (some ad) n cap) xs) (hl:n≤1048576) (hbase:base≤w.heap.size)
  (hK:∀ a' cap' w',CEx w' base (.slice a' n cap') B xs→Only [gb] w w'→wpList Try.prog ops Q rest (a.put o.dst (.slice a' n cap')) w') (hB:¬ B gb) :
  wpList Try.prog ops Q (o :: rest) a w:=by
 refine wpList_plain hg fun K' hK'=>?_
 obtain ⟨i,hi,hz⟩:=Option.map_eq_some_iff.1 info_ex
 simp only [Prod.mk.injEq] at hz
 obtain ⟨z1,z2,z3⟩:=hz
 obtain ⟨a0,cap0,e0,hc0,hx0⟩:=hv
 injection e0 with e1 e2 e3
 subst e1 e2 e3
 obtain ⟨css,f1,f2,f3⟩:∃ css:List (List Value),css.length=xs.length∧(∀ (j:Nat) (x:E) (cs:List Value),xs[j]?=some x→css[j]?=some cs→EV w B x cs)∧∀ (j:Nat) (u:Value),css.flatten[j]?=some u→w.cell? (ad.add j)=some u:=by
  rcases hx0 with rfl | ⟨g,h1,h2,h3⟩
  ·exact ⟨[],rfl,by simp,by simp⟩
  ·obtain ⟨css,f1,f2,f3⟩:=EsAt.flat xs 0 h3
   refine ⟨css,f1,f2,fun j u hu=>?_⟩
   cases h1
   have:=f3 j u hu
   rw [Nat.zero_mul,Nat.zero_add] at this
   have e:(⟨g,0,none⟩:Addr).add j=⟨g,j,none⟩:=by simp [Addr.add];exact fun e=>e.symm
   rw [e]
   exact this
 have hlen:=all_css f1 f2 (fun x cs h=>EV.len h)
 have hone:=all_css f1 f2 (fun x cs h=>EV.plainCells h)
 have hown:w.ownsRow base 74 5 (.slice (some ⟨gb,0,none⟩) 0 0) 0 []:=⟨rfl,.inr ⟨gb,0,#[],rfl,hgb,hb,Nat.le_refl _,by unfold maxLen;omega,by simp,by simp⟩⟩
 obtain ⟨v',w',hr,k1,k2,_,k5⟩:=run_append_own_at (P:=Try.prog) w base 24 o.type 74 i (.agg #[.int .i64 0,.int .i64 0,.string ⟨#[]⟩,.slice none 0 0,.int .i64 0]) 5 64 Try.underlying24 hi z1 z2 z3 rfl (by omega) _ 0 [] hown ad xs.length cap css.flatten (by rw [flat_len hlen,f1]) f3 (by
  intro u hu
  obtain ⟨cs,h1,h2⟩:=List.mem_flatten.1 hu
  exact hone cs h1 u h2) (by unfold maxLen;omega) (by omega) hbase
 rw [Nat.zero_add,List.nil_append] at k1
 have o2:Only [gb] w w':=by
  have:=Only.of_grown k2
  simpa [Value.ownBlock] using this
 have hC:CEx w' base v' B xs:=by
  rcases k1.2 with ⟨rfl,hn⟩ | ⟨g,cp,cur,rfl,hbg,hg2,hc2,_,hz2,ht⟩
  ·exact ⟨none,0,by rw [hn],by omega,.inl (List.eq_nil_of_length_eq_zero hn)⟩
  ·refine ⟨_,cp,rfl,hc2,.inr ⟨g,cur,rfl,hbg,hg2,EsAt.of xs 0 css f1 (fun j x cs hs hcs=>⟨EV.kept o2 (by simpa using hB) (fun _ h=>h) x cs (f2 j x cs hs hcs),fun k hk=>?_⟩)⟩⟩
   have hj:j < xs.length:=(List.getElem?_eq_some_iff.1 hs).1
   have hf:=five_flat hlen j cs k hcs hk
   rw [← ht,List.getElem?_take_of_lt (by omega)] at hf
   rw [← hf,cell_at _ hg2,Nat.zero_add]
   simp
 obtain ⟨a',cap',rfl,hcc⟩:=id hC
 unfold Oper.wp
 simp [execOp,hop,resolve,invoke,builtin,hs,hx,hr,Result.andThen]
 exact hK' _ _ (hK _ _ w' hC o2)
theorem wpList_clone_st (hg:o.guard=none) (s x:Operand) (hop:o.op=Op.call {callee:=Callee.builtin Builtin.append,args:=#[s,x],argTypes:=#[25,25] })
  (gb:Nat) (hs:a.eval s=.slice (some ⟨gb,0,none⟩) 0 0) (hb:w.heap[gb]?=some (.cells #[] 61 (0,0))) (base:Nat) (hgb:base≤gb) (ad:Addr) (n cap:Nat) (B:Nat→Prop) (xs:List St) (hx:a.eval x=.slice (some ad) n cap) (hv:SsV w B (.slice (some ad) n cap) xs) (hl:n≤1048576) (hbase:base≤w.heap.size)
  (hK:∀ a' cap' w',CSt w' base (.slice a' n cap') B xs→Only [gb] w w'→wpList Try.prog ops Q rest (a.put o.dst (.slice a' n cap')) w') (hB:¬ B gb) :
  wpList Try.prog ops Q (o :: rest) a w:=by
 refine wpList_plain hg fun K' hK'=>?_
 obtain ⟨i,hi,hz⟩:=Option.map_eq_some_iff.1 info_st
 simp only [Prod.mk.injEq] at hz
 obtain ⟨z1,z2,z3⟩:=hz
 obtain ⟨a0,cap0,e0,hc0,hx0⟩:=hv
 injection e0 with e1 e2 e3
 subst e1 e2 e3
 obtain ⟨css,f1,f2,f3⟩:∃ css:List (List Value),css.length=xs.length∧(∀ (j:Nat) (x:St) (cs:List Value),xs[j]?=some x→css[j]?=some cs→SV w B x cs)∧∀ (j:Nat) (u:Value),css.flatten[j]?=some u→w.cell? (ad.add j)=some u:=by
  rcases hx0 with rfl | ⟨g,h1,h2,h3⟩
  ·exact ⟨[],rfl,by simp,by simp⟩
  ·obtain ⟨css,f1,f2,f3⟩:=SsAt.flat xs 0 h3
   refine ⟨css,f1,f2,fun j u hu=>?_⟩
   cases h1
   have:=f3 j u hu
   rw [Nat.zero_mul,Nat.zero_add] at this
   have e:(⟨g,0,none⟩:Addr).add j=⟨g,j,none⟩:=by simp [Addr.add];exact fun e=>e.symm
   rw [e]
   exact this
 have hlen:=all_css f1 f2 (fun x cs h=>SV.len h)
 have hone:=all_css f1 f2 (fun x cs h=>SV.plainCells h)
 have hown:w.ownsRow base 61 7 (.slice (some ⟨gb,0,none⟩) 0 0) 0 []:=⟨rfl,.inr ⟨gb,0,#[],rfl,hgb,hb,Nat.le_refl _,by unfold maxLen;omega,by simp,by simp⟩⟩
 obtain ⟨v',w',hr,k1,k2,_,k5⟩:=run_append_own_at (P:=Try.prog) w base 25 o.type 61 i (.agg #[.int .i64 0,.string ⟨#[]⟩,.slice none 0 0,.int .i64 0,.slice none 0 0,.slice none 0 0,.int .i64 0]) 7 112 Try.underlying25 hi z1 z2 z3 rfl (by omega) _ 0 [] hown ad xs.length cap css.flatten (by rw [flat_len hlen,f1]) f3 (by
  intro u hu
  obtain ⟨cs,h1,h2⟩:=List.mem_flatten.1 hu
  exact hone cs h1 u h2) (by unfold maxLen;omega) (by omega) hbase
 rw [Nat.zero_add,List.nil_append] at k1
 have o2:Only [gb] w w':=by
  have:=Only.of_grown k2
  simpa [Value.ownBlock] using this
 have hC:CSt w' base v' B xs:=by
  rcases k1.2 with ⟨rfl,hn⟩ | ⟨g,cp,cur,rfl,hbg,hg2,hc2,_,hz2,ht⟩
  ·exact ⟨none,0,by rw [hn],by omega,.inl (List.eq_nil_of_length_eq_zero hn)⟩
  ·refine ⟨_,cp,rfl,hc2,.inr ⟨g,cur,rfl,hbg,hg2,by rw [hz2];exact Nat.mul_le_mul_right 7 hc2,SsAt.of xs 0 css f1 (fun j x cs hs hcs=>⟨SV.kept o2 (by simpa using hB) (fun _ h=>h) x cs (f2 j x cs hs hcs),fun k hk=>?_⟩)⟩⟩
   have hj:j < xs.length:=(List.getElem?_eq_some_iff.1 hs).1
   have hf:=seven_flat hlen j cs k hcs hk
   rw [← ht,List.getElem?_take_of_lt (by omega)] at hf
   rw [← hf,cell_at _ hg2,Nat.zero_add]
   simp
 obtain ⟨a',cap',rfl,hcc⟩:=id hC
 unfold Oper.wp
 simp [execOp,hop,resolve,invoke,builtin,hs,hx,hr,Result.andThen]
 exact hK' _ _ (hK _ _ w' hC o2)
theorem wpList_clone_nm (hg:o.guard=none) (s x:Operand) (hop:o.op=Op.call {callee:=Callee.builtin Builtin.append,args:=#[s,x],argTypes:=#[23,23] })
  (gb:Nat) (hs:a.eval s=.slice (some ⟨gb,0,none⟩) 0 0) (hb:w.heap[gb]?=some (.cells #[] 9 (0,0))) (base:Nat) (hgb:base≤gb) (ad:Addr) (n cap:Nat) (B:Nat→Prop) (xs:List Sec) (hx:a.eval x=.slice (some ad) n cap) (hv:NmV w B (.slice (some ad) n cap) xs) (hl:n≤1048576) (hbase:base≤w.heap.size)
  (hK:∀ a' cap' w',ONm w' base (.slice a' n cap') xs→Only [gb] w w'→wpList Try.prog ops Q rest (a.put o.dst (.slice a' n cap')) w') :
  wpList Try.prog ops Q (o :: rest) a w:=by
 refine wpList_plain hg fun K' hK'=>?_
 obtain ⟨i,hi,hz⟩:=Option.map_eq_some_iff.1 info_str
 simp only [Prod.mk.injEq] at hz
 obtain ⟨z1,z2,z3⟩:=hz
 obtain ⟨a0,cap0,e0,hc0,hx0⟩:=hv
 injection e0 with e1 e2 e3
 subst e1 e2 e3
 have f3:∀ (j:Nat) (u:Value),(nmv xs)[j]?=some u→w.cell? (ad.add j)=some u:=by
  intro j u hu
  rcases hx0 with rfl | ⟨g,h1,h2,h3⟩
  ·simp [nmv] at hu
  ·cases h1
   have e:(⟨g,0,none⟩:Addr).add j=⟨g,j,none⟩:=by simp [Addr.add];exact fun e=>e.symm
   rw [e]
   unfold nmv at hu
   rw [List.getElem?_map] at hu
   obtain ⟨y,hy,rfl⟩:=Option.map_eq_some_iff.1 hu
   exact h3 j y hy
 have hown:w.ownsRow base 9 1 (.slice (some ⟨gb,0,none⟩) 0 0) 0 []:=⟨rfl,.inr ⟨gb,0,#[],rfl,hgb,hb,Nat.le_refl _,by unfold maxLen;omega,by simp,by simp⟩⟩
 obtain ⟨v',w',hr,k1,k2,_,k5⟩:=run_append_own_at (P:=Try.prog) w base 23 o.type 9 i (.string ⟨#[]⟩) 1 16 Try.underlying23 hi z1 z2 z3 rfl (by omega) _ 0 [] hown ad xs.length cap (nmv xs) (by simp [nmv]) f3 (by
  intro u hu
  unfold nmv at hu
  obtain ⟨y,_,rfl⟩:=List.mem_map.1 hu
  rfl) (by unfold maxLen;omega) (by omega) hbase
 rw [Nat.zero_add,List.nil_append] at k1
 have o2:Only [gb] w w':=by
  have:=Only.of_grown k2
  simpa [Value.ownBlock] using this
 have hsh:∃ a' cap',v'=.slice a' xs.length cap':=by
  rcases k1.2 with ⟨rfl,hn⟩ | ⟨g,cp,cur,rfl,_⟩
  ·exact ⟨none,0,by rw [hn]⟩
  ·exact ⟨_,_,rfl⟩
 obtain ⟨a',cap',rfl⟩:=hsh
 unfold Oper.wp
 simp [execOp,hop,resolve,invoke,builtin,hs,hx,hr,Result.andThen]
 exact hK' _ _ (hK _ _ w' k1 o2)
end
set_option maxRecDepth 100000 in
theorem cloneE_any (v:Value) (xs:List E) (w:World) (B:Nat→Prop) (hv:EsV w B v xs) (hl:xs.length≤1048576) :
  Calls Try.prog 70 #[v] w fun e w'=>∃ v',e=.returned v'∧CEx w' w.heap.size v' (fun b=>B b∧b < w.heap.size) xs∧Only [] w w':=by
 have HV:=Hd hv.lt
 obtain ⟨a,cap,rfl,hc,hx⟩:=hv
 obtain ⟨n,hn⟩:∃ n,n=xs.length:=⟨_,rfl⟩
 rw [← hn] at HV hl⊢
 have HN:=Hd hn
 cases a with
 | none=>
  have h0:xs=[]:=by
   rcases hx with h | ⟨g,h,_⟩
   ·exact h
   ·cases h
  have H0:=Hd h0
  have q:=nilE_yes n cap
  clear hx hc hn h0
  go_enter Try.func70,Try.ntmps70
  go_wp2_with fail
  go_ret
  exact ⟨_,rfl,⟨none,0,by rw [H0.out];rfl,by rw [H0.out];exact Nat.le_refl _,.inl H0.out⟩,Only.refl _ _⟩
 | some ad=>
  have q:=nilE_no ad n cap
  clear hx hc hn
  go_enter Try.func70,Try.ntmps70
  go_wp2_with (refine wpList_clone_ex rfl (.tmp 5) (.tmp 6) rfl w.heap.size (by rfl) (heap_new w _) w.heap.size (Nat.le_refl _) ad n cap (fun b=>B b∧b < w.heap.size) xs (by rfl) (HV.out.quiet ((Only.refl [] w).alloc _)) hl (by simp) ?_ (fun e=>by omega);intro a' cap' w2 h2 o2)
  go_ret
  exact ⟨_,rfl,h2,((Only.refl [] w).alloc _).trans o2 (fun k hk=>.inr (by rw [List.mem_singleton.1 hk];exact Nat.le_refl _))⟩
set_option maxRecDepth 100000 in
theorem cloneS_any (v:Value) (xs:List St) (w:World) (B:Nat→Prop) (hv:SsV w B v xs) (hl:xs.length≤1048576) :
  Calls Try.prog 44 #[v] w fun e w'=>∃ v',e=.returned v'∧CSt w' w.heap.size v' (fun b=>B b∧b < w.heap.size) xs∧Only [] w w':=by
 have HV:=Hd hv.lt
 obtain ⟨a,cap,rfl,hc,hx⟩:=hv
 obtain ⟨n,hn⟩:∃ n,n=xs.length:=⟨_,rfl⟩
 rw [← hn] at HV hl⊢
 have HN:=Hd hn
 cases a with
 | none=>
  have h0:xs=[]:=by
   rcases hx with h | ⟨g,h,_⟩
   ·exact h
   ·cases h
  have H0:=Hd h0
  have q:=nilS_yes n cap
  clear hx hc hn h0
  go_enter Try.func44,Try.ntmps44
  go_wp2_with fail
  go_ret
  exact ⟨_,rfl,⟨none,0,by rw [H0.out];rfl,by rw [H0.out];exact Nat.le_refl _,.inl H0.out⟩,Only.refl _ _⟩
 | some ad=>
  have q:=nilS_no ad n cap
  clear hx hc hn
  go_enter Try.func44,Try.ntmps44
  go_wp2_with (refine wpList_clone_st rfl (.tmp 5) (.tmp 6) rfl w.heap.size (by rfl) (heap_new w _) w.heap.size (Nat.le_refl _) ad n cap (fun b=>B b∧b < w.heap.size) xs (by rfl) (HV.out.quiet ((Only.refl [] w).alloc _)) hl (by simp) ?_ (fun e=>by omega);intro a' cap' w2 h2 o2)
  go_ret
  exact ⟨_,rfl,h2,((Only.refl [] w).alloc _).trans o2 (fun k hk=>.inr (by rw [List.mem_singleton.1 hk];exact Nat.le_refl _))⟩
set_option maxRecDepth 100000 in
theorem cloneN_any (v:Value) (xs:List Sec) (w:World) (B:Nat→Prop) (hv:NmV w B v xs) (hl:xs.length≤1048576) :
  Calls Try.prog 23 #[v] w fun e w'=>∃ a' cap',e=.returned (.slice a' xs.length cap')∧ONm w' w.heap.size (.slice a' xs.length cap') xs∧Only [] w w':=by
 have HV:=Hd hv
 obtain ⟨a,cap,rfl,hc,hx⟩:=hv
 obtain ⟨n,hn⟩:∃ n,n=xs.length:=⟨_,rfl⟩
 rw [← hn] at HV hl⊢
 have HN:=Hd hn
 cases a with
 | none=>
  have h0:xs=[]:=by
   rcases hx with h | ⟨g,h,_⟩
   ·exact h
   ·cases h
  obtain rfl:n=0:=by rw [hn,h0];rfl
  have H0:=Hd h0
  have q:=nilN_yes 0 cap
  clear hx hc hn h0
  go_enter Try.func23,Try.ntmps23
  go_wp2_with fail
  go_ret
  exact ⟨none,0,rfl,by rw [H0.out];exact ONm.nil _ _,Only.refl _ _⟩
 | some ad=>
  have q:=nilN_no ad n cap
  clear hx hc hn
  go_enter Try.func23,Try.ntmps23
  go_wp2_with (refine wpList_clone_nm rfl (.tmp 5) (.tmp 6) rfl w.heap.size (by rfl) (heap_new w _) w.heap.size (Nat.le_refl _) ad n cap B xs (by rfl) (HV.out.kept ((Only.refl [] w).alloc _) (by simp) (fun _ h=>h)) hl (by simp) ?_;intro a' cap' w2 h2 o2)
  go_ret
  exact ⟨a',cap',rfl,h2,((Only.refl [] w).alloc _).trans o2 (fun k hk=>.inr (by rw [List.mem_singleton.1 hk];exact Nat.le_refl _))⟩
end Go.Proofs.Ytagkbbcpbebapaa
namespace Go.Proofs.Ytagkbbcpbebapaa
open Go.RowKit Go.Maps
set_option linter.unusedSimpArgs false
set_option linter.unusedVariables false
theorem EsAt.aside {w w':World} {B:Nat→Prop} {g:Nat} (ho:Only [g] w w') (hB:¬ B g):∀ (xs:List E) (i:Nat),(∀ c,i*5≤c→c < (i+xs.length)*5→w'.cell? ⟨g,c,none⟩=w.cell? ⟨g,c,none⟩)→EsAt w B g i xs→EsAt w' B g i xs
 | [],_,_,_=>EsAt.nil'
 | x :: xs,i,hc,h=>by
  rw [List.length_cons] at hc
  unfold EsAt at h⊢
  obtain ⟨⟨cs,h1,h2⟩,h3⟩:=h
  refine ⟨⟨cs,EV.kept ho (by simpa using hB) (fun _ h=>h) x cs h1,fun j hj=>?_⟩,EsAt.aside ho hB xs (i+1) (fun c h4 h5=>hc c (by omega) (by omega)) h3⟩
  rw [hc _ (by omega) (by omega)]
  exact h2 j hj
theorem EsAt.snoc {w:World} {B:Nat→Prop} {g:Nat} {x:E} {cs:List Value} (hx:EV w B x cs):∀ (xs:List E) (i:Nat),EsAt w B g i xs→(∀ j,j < 5→w.cell? ⟨g,(i+xs.length)*5+j,none⟩=cs[j]?)→EsAt w B g i (xs++[x])
 | [],i,_,hc=>EsAt.one hx (by simpa using hc) EsAt.nil'
 | y :: ys,i,h,hc=>by
  rw [List.length_cons] at hc
  unfold EsAt at h
  obtain ⟨h1,h3⟩:=h
  rw [List.cons_append]
  unfold EsAt
  exact ⟨h1,EsAt.snoc hx ys (i+1) h3 (fun j hj=>by rw [show i+1+ys.length=i+(ys.length+1) by omega];exact hc j hj)⟩
theorem SsAt.aside {w w':World} {B:Nat→Prop} {g:Nat} (ho:Only [g] w w') (hB:¬ B g):∀ (xs:List St) (i:Nat),(∀ c,i*7≤c→c < (i+xs.length)*7→w'.cell? ⟨g,c,none⟩=w.cell? ⟨g,c,none⟩)→SsAt w B g i xs→SsAt w' B g i xs
 | [],_,_,_=>by unfold SsAt;trivial
 | x :: xs,i,hc,h=>by
  rw [List.length_cons] at hc
  unfold SsAt at h⊢
  obtain ⟨⟨cs,h1,h2⟩,h3⟩:=h
  refine ⟨⟨cs,SV.kept ho (by simpa using hB) (fun _ h=>h) x cs h1,fun j hj=>?_⟩,SsAt.aside ho hB xs (i+1) (fun c h4 h5=>hc c (by omega) (by omega)) h3⟩
  rw [hc _ (by omega) (by omega)]
  exact h2 j hj
theorem SsAt.snoc {w:World} {B:Nat→Prop} {g:Nat} {x:St} {cs:List Value} (hx:SV w B x cs):∀ (xs:List St) (i:Nat),SsAt w B g i xs→(∀ j,j < 7→w.cell? ⟨g,(i+xs.length)*7+j,none⟩=cs[j]?)→SsAt w B g i (xs++[x])
 | [],i,_,hc=>by
  rw [List.nil_append]
  unfold SsAt
  exact ⟨⟨cs,hx,by simpa using hc⟩,by unfold SsAt;trivial⟩
 | y :: ys,i,h,hc=>by
  rw [List.length_cons] at hc
  unfold SsAt at h
  obtain ⟨h1,h3⟩:=h
  rw [List.cons_append]
  unfold SsAt
  exact ⟨h1,SsAt.snoc hx ys (i+1) h3 (fun j hj=>by rw [show i+1+ys.length=i+(ys.length+1) by omega];exact hc j hj)⟩
theorem SsAt.app {w:World} {B:Nat→Prop} {g:Nat}:∀ (xs ys:List St) (i:Nat),SsAt w B g i xs→SsAt w B g (i+xs.length) ys→SsAt w B g i (xs++ys)
 | [],ys,i,_,h=>by simpa using h
 | x :: xs,ys,i,h,h2=>by
  rw [List.length_cons] at h2
  unfold SsAt at h
  rw [List.cons_append]
  unfold SsAt
  exact ⟨h.1,SsAt.app xs ys (i+1) h.2 (by rw [show i+1+xs.length=i+(xs.length+1) by omega];exact h2)⟩
theorem EsAt.wide {w:World} {B B':Nat→Prop} {g:Nat} (hB:∀ k,B k→B' k):∀ (xs:List E) (i:Nat),EsAt w B g i xs→EsAt w B' g i xs
 | [],_,_=>EsAt.nil'
 | x :: xs,i,h=>by
  unfold EsAt at h⊢
  obtain ⟨⟨cs,h1,h2⟩,h3⟩:=h
  exact ⟨⟨cs,EV.kept (Only.refl [] w) (by simp) hB x cs h1,h2⟩,EsAt.wide hB xs (i+1) h3⟩
theorem SsAt.wide {w:World} {B B':Nat→Prop} {g:Nat} (hB:∀ k,B k→B' k):∀ (xs:List St) (i:Nat),SsAt w B g i xs→SsAt w B' g i xs
 | [],_,_=>by unfold SsAt;trivial
 | x :: xs,i,h=>by
  unfold SsAt at h⊢
  obtain ⟨⟨cs,h1,h2⟩,h3⟩:=h
  exact ⟨⟨cs,SV.kept (Only.refl [] w) (by simp) hB x cs h1,h2⟩,SsAt.wide hB xs (i+1) h3⟩
theorem drop_at {α:Type} {xs:List α} {j:Nat} {x:α} (h:xs[j]?=some x):xs.drop j=x :: xs.drop (j+1):=by
 obtain ⟨hlt,rfl⟩:=List.getElem?_eq_some_iff.1 h
 exact List.drop_eq_getElem_cons hlt
theorem take_at {α:Type} {xs:List α} {j:Nat} {x:α} (h:xs[j]?=some x):xs.take (j+1)=xs.take j++[x]:=by
 rw [List.take_add_one,h]
 rfl
theorem take_len {α:Type} {xs:List α} {j:Nat} {x:α} (h:xs[j]?=some x):(xs.take j).length=j:=by
 have:=(List.getElem?_eq_some_iff.1 h).1
 rw [List.length_take]
 omega
theorem cell_same {w w':World} {g:Nat} (ho:Only [] w w') (hg:g < w.heap.size) (c:Nat):w'.cell? ⟨g,c,none⟩=w.cell? ⟨g,c,none⟩:=
 World.cell?_of_block (a:=⟨g,c,none⟩) (ho.block g hg (by simp))
def LX (w wr:World) (a:Option Addr) (Bo:Nat→Prop) (xs:List E) (j:Nat):Prop:=
 Only [] w wr∧(xs=[]∨∃ g cur,a=some ⟨g,0,none⟩∧w.heap.size≤g∧wr.heap[g]?=some (.cells cur 74 (0,0))∧EsAt wr (fun b=>w.heap.size≤b∧b≠g) g 0 (xs.take j)∧EsAt wr Bo g j (xs.drop j))
theorem LX.opened {w wr:World} {a:Option Addr} {Bo:Nat→Prop} {xs:List E} {j:Nat} (h:LX w wr a Bo xs j) {k nn p:Int} {nm:Sec} {ys:List E} (he:xs[j]?=some (.mk k nn nm ys p)) :
  ∃ g a3 c3,a=some ⟨g,0,none⟩∧w.heap.size≤g∧wr.cell? ⟨g,j*5+3,none⟩=some (.slice a3 ys.length c3)∧wr.frozen? ⟨g,j*5+3,none⟩=false∧EsV wr Bo (.slice a3 ys.length c3) ys:=by
 obtain ⟨-,h⟩:=h
 rcases h with rfl | ⟨g,cur,rfl,hg,hb,-,h2⟩
 ·simp at he
 ·rw [drop_at he] at h2
  unfold EsAt at h2
  obtain ⟨⟨cs,h3,h4⟩,-⟩:=h2
  unfold EV at h3
  obtain ⟨a3,c3,rfl,h5,h6⟩:=h3
  exact ⟨g,a3,c3,rfl,hg,by simpa using h4 3 (by omega),free_at _ hb,EsV.of_parts h5 h6⟩
theorem LX.next {w wr w5:World} {g:Nat} {Bo:Nat→Prop} {xs:List E} {j:Nat} (h:LX w wr (some ⟨g,0,none⟩) Bo xs j) {k nn p:Int} {nm:Sec} {ys:List E} (he:xs[j]?=some (.mk k nn nm ys p))
  (ho:Only [] wr w5) {v5:Value} (hv:EsV w5 (fun b=>wr.heap.size≤b) v5 ys) (hBo:∀ b,Bo b→b < w.heap.size):LX w (w5.setCell ⟨g,j*5+3,none⟩ v5) (some ⟨g,0,none⟩) Bo xs (j+1):=by
 obtain ⟨h0,h⟩:=h
 rcases h with rfl | ⟨g',cur,e,hg,hb,h1,h2⟩
 ·simp at he
 ·cases e
  have hgl:=lt_of_heap hb
  have hb5:=ho.heap hb (by simp)
  have o6:Only [g] w5 (w5.setCell ⟨g,j*5+3,none⟩ v5):=(Only.refl _ _).setCell (.inl (by simp)) _
  have o56:Only [g] wr (w5.setCell ⟨g,j*5+3,none⟩ v5):=(ho.mono (T:=[g]) (by simp)).trans o6 (fun k hk=>.inl hk)
  have hother:∀ c,c≠j*5+3→(w5.setCell ⟨g,j*5+3,none⟩ v5).cell? ⟨g,c,none⟩=wr.cell? ⟨g,c,none⟩:=fun c hc=>by
   rw [World.cell?_setCell_other _ _ _ _ (fun e=>hc (by injection e with _ e2;exact e2.symm)),cell_same ho hgl]
  rw [drop_at he] at h2
  unfold EsAt at h2
  obtain ⟨⟨cs,h3,h4⟩,h5⟩:=h2
  unfold EV at h3
  obtain ⟨a3,c3,rfl,-,-⟩:=h3
  have hsame:(w5.setCell ⟨g,j*5+3,none⟩ v5).cell? ⟨g,j*5+3,none⟩=some v5:=World.cell?_setCell_same _ _ _ (u:=.slice a3 ys.length c3) (by rw [cell_same ho hgl];simpa using h4 3 (by omega))
  have hn:¬ Bo g:=fun e=>by have:=hBo g e;omega
  refine ⟨h0.trans (o56) (fun k hk=>.inr (by rw [List.mem_singleton.1 hk];exact hg)),.inr ⟨g,_,rfl,hg,heap_cell v5 hb5,?_,?_⟩⟩
  ·rw [take_at he]
   refine EsAt.snoc (cs:=[.int .i64 k,.int .i64 nn,.string (strOf nm),v5,.int .i64 p]) (EV.mk' (hv.kept o6 (by simpa using hgl) (fun b hb=>⟨by have:=h0.size;omega,by omega⟩))) _ _ (EsAt.aside o56 (fun e=>e.2 rfl) _ _ (fun c hc1 hc2=>hother c (by rw [take_len he] at hc2;omega)) h1) (fun i hi=>?_)
   rw [take_len he,Nat.zero_add]
   by_cases e3:i=3
   ·subst e3
    rw [hsame]
    rfl
   ·rw [hother _ (by omega),h4 i hi]
    match i,hi,e3 with
    | 0,_,_=>rfl
    | 1,_,_=>rfl
    | 2,_,_=>rfl
    | 4,_,_=>rfl
  ·exact EsAt.aside o56 hn _ _ (fun c hc1 hc2=>hother c (by omega)) h5
def XPr (N:Nat):Prop:=∀ (xs:List E),sizeL xs≤N→∀ (w:World) (v:Value) (B:Nat→Prop),EsV w B v xs→
 Calls Try.prog 45 #[v] w fun en w'=>∃ a cap,en=.returned (.slice a xs.length cap)∧EsV w' (fun b=>w.heap.size≤b) (.slice a xs.length cap) xs∧Only [] w w'
set_option maxRecDepth 100000 in
set_option maxHeartbeats 4000000 in
theorem iexprs_step (N:Nat) (hNN:N≤1000000) (IS:∀ M,M < N→XPr M):XPr N:=by
 intro xs hN w v B hv
 have hlen:=sizeL_len xs
 have KC:=cloneE_any v xs w B hv (by omega)
 obtain ⟨a,cap,rfl,-⟩:=id hv
 obtain ⟨n,hn⟩:∃ n,n=xs.length:=⟨_,rfl⟩
 rw [← hn] at hlen KC⊢
 have HN:=Hd hn
 have hnb:n≤1000000:=by omega
 clear hn hv
 go_enter Try.func45,Try.ntmps45
 go_wp2_with fail
 refine KC.mono ?_
 rintro en w1 ⟨v',rfl,hc,o1⟩
 obtain ⟨a',cap',hv',hcap',hx'⟩:=hc
 rw [← HN.out] at hv' hcap'
 subst hv'
 have HC:=Hd hcap'
 have HX:=Hd (show LX w w1 a' (fun b=>B b∧b < w.heap.size) xs 0 from ⟨o1,hx'.imp id (fun ⟨g,cur,h1,h2,h3,h4⟩=>⟨g,cur,h1,h2,h3,EsAt.nil',h4⟩)⟩)
 clear KC hcap' hx' o1
 go_wp2_with fail
 go_loopw [9] (fun ix wr=>∃ (j:Nat),j≤n∧ix=.int .i64 (j:Int)∧Hid (LX w wr a' (fun b=>B b∧b < w.heap.size) xs j)) (fun ix _=>n - (intOf ix).toNat)
 case atStart=>exact ⟨0,Nat.zero_le _,rfl,HX⟩
 case round=>
  clear HX
  obtain ⟨j,hjn,rfl,HX⟩:=hrel
  by_cases hlt:j < n
  ·have hlt':(j:Int) < (n:Int):=by omega
   have j0:(0:Int)≤(j:Int):=by omega
   obtain ⟨e,he⟩:∃ e,xs[j]?=some e:=⟨_,List.getElem?_eq_getElem (by rw [← HN.out];exact hlt)⟩
   obtain ⟨k,nn,nm,ys,p⟩:=e
   obtain ⟨g,a3,c3,rfl,hg,x3,f3,hv3⟩:=HX.out.opened he
   have hsz:=sizeL_mem he
   have KI:=IS (sizeL ys) (by rw [sizeE_mk] at hsz;omega) ys (Nat.le_refl _) wr _ _ hv3
   have HE:=Hd he
   have hgl:=World.block_lt_of_cell? _ _ x3
   obtain ⟨L,hL⟩:∃ L,L=ys.length:=⟨_,rfl⟩
   rw [← hL] at x3 KI
   clear he hv3 hsz hL hg
   go_wp2_with fail
   refine KI.mono ?_
   rintro en w5 ⟨a5,c5,rfl,hv5,o5⟩
   have HX5:=Hd (HX.out.next HE.out o5 hv5 (fun b hb=>hb.2))
   have x3':=cell_kept o5 x3 (by simp)
   have f3':w5.frozen? ⟨g,j*5+3,none⟩=false:=by
    rw [World.frozen?_of_block (w:=wr) (a:=⟨g,j*5+3,none⟩) (o5.block g hgl (by simp))]
    exact f3
   clear KI x3 f3 hv5 o5 HX
   go_wp2_with fail
   refine ⟨⟨j+1,by omega,rfl,HX5⟩,?_⟩
   simp [intOf]
   omega
  ·obtain rfl:j=n:=by omega
   go_wp2_with fail
   go_ret
   refine ⟨a',cap',rfl,?_,HX.out.1⟩
   obtain ⟨-,hx⟩:=HX.out
   refine ⟨a',cap',by rw [HN.out],by rw [← HN.out];exact HC.out,hx.imp id ?_⟩
   rintro ⟨g,cur,h1,h2,h3,h4,-⟩
   rw [HN.out,List.take_length] at h4
   exact ⟨g,h1,h2,EsAt.wide (fun _ h=>h.1) xs 0 h4⟩
theorem iexprs_all (N:Nat) (hN:N≤1000000):XPr N:=by
 induction N using Nat.strongRecOn with
 | _ N ih=>exact iexprs_step N hN (fun M hM=>ih M hM (by omega))
end Go.Proofs.Ytagkbbcpbebapaa
namespace Go.Proofs.Ytagkbbcpbebapaa
open Go.RowKit Go.Maps
set_option linter.unusedSimpArgs false
set_option linter.unusedVariables false
theorem letsB_snoc (x:St):∀ l:List St,letsB (l++[x])=letsB l++(if x.kind=1 then [x] else [])
 | []=>by
  rw [List.nil_append]
  unfold letsB letsB
  by_cases h:x.kind=1
  ·simp [h]
  ·simp [h]
 | y :: ys=>by
  rw [List.cons_append]
  unfold letsB
  rw [letsB_snoc x ys]
  by_cases h:y.kind=1
  ·simp [h]
  ·simp [h]
theorem tuO_snoc (x:St):∀ l:List St,tuO (l++[x])=(if x.kind=1 then [] else [tuS x])++tuO l
 | []=>by
  rw [List.nil_append]
  unfold tuO
  unfold tuO
  simp
 | y :: ys=>by
  rw [List.cons_append]
  conv=>lhs;unfold tuO
  conv=>rhs;unfold tuO
  rw [tuO_snoc x ys,List.append_assoc]
theorem lets_len:∀ l:List St,(letsB l).length+(tuO l).length=l.length
 | []=>by unfold letsB tuO;rfl
 | y :: ys=>by
  have:=lets_len ys
  unfold letsB tuO
  by_cases h:y.kind=1
  ·simp [h];omega
  ·simp [h];omega
theorem tuB_nil:tuB []=[]:=by unfold tuB letsB tuO;rfl
theorem tuB_len (l:List St):(tuB l).length=l.length:=by unfold tuB;rw [List.length_append];exact lets_len l
theorem pB_mem:∀ {xs:List St} {j:Nat} {e:St},pB xs→xs[j]?=some e→pS e
 | [],j,e,_,h=>by simp at h
 | x :: xs,0,e,h,hj=>by unfold pB at h;simp at hj;subst hj;exact h.1
 | x :: xs,j+1,e,h,hj=>by unfold pB at h;exact pB_mem h.2 (by simpa using hj)
def put7 (w:World) (g i:Nat) (v0 v1 v2 v3 v4 v5 v6:Value):World:=
 ((((((w.setCell ⟨g,i*7,none⟩ v0).setCell ⟨g,i*7+1,none⟩ v1).setCell ⟨g,i*7+2,none⟩ v2).setCell ⟨g,i*7+3,none⟩ v3).setCell ⟨g,i*7+4,none⟩ v4).setCell ⟨g,i*7+5,none⟩ v5).setCell ⟨g,i*7+6,none⟩ v6
theorem put7_row {w:World} {g i:Nat} {cur:Array Value} {t:TypeId} (h:w.heap[g]?=some (.cells cur t (0,0))) (hi:i*7+7≤cur.size) (v0 v1 v2 v3 v4 v5 v6:Value) :
  ∃ cur',(put7 w g i v0 v1 v2 v3 v4 v5 v6).heap[g]?=some (.cells cur' t (0,0))∧cur'.size=cur.size∧(∀ c,(c < i*7∨i*7+7≤c)→(put7 w g i v0 v1 v2 v3 v4 v5 v6).cell? ⟨g,c,none⟩=w.cell? ⟨g,c,none⟩)∧
   (∀ k,k < 7→(put7 w g i v0 v1 v2 v3 v4 v5 v6).cell? ⟨g,i*7+k,none⟩=[v0,v1,v2,v3,v4,v5,v6][k]?)∧Only [g] w (put7 w g i v0 v1 v2 v3 v4 v5 v6):=by
 have h7:=heap_cell (i:=i*7+6) v6 (heap_cell (i:=i*7+5) v5 (heap_cell (i:=i*7+4) v4 (heap_cell (i:=i*7+3) v3 (heap_cell (i:=i*7+2) v2 (heap_cell (i:=i*7+1) v1 (heap_cell (i:=i*7) v0 h))))))
 refine ⟨_,h7,by simp,fun c hc=>?_,fun k hk=>?_,?_⟩
 ·unfold put7
  rw [cell_at _ h7,cell_at _ h]
  simp only [Array.getElem?_setIfInBounds]
  repeat rw [if_neg (by omega)]
 ·unfold put7
  rw [cell_at _ h7]
  simp only [Array.getElem?_setIfInBounds,Array.size_setIfInBounds]
  match k,hk with
  | 0,_=>(repeat (first | rw [if_pos (by omega)] | rw [if_neg (by omega)]));rfl
  | 1,_=>(repeat (first | rw [if_pos (by omega)] | rw [if_neg (by omega)]));rfl
  | 2,_=>(repeat (first | rw [if_pos (by omega)] | rw [if_neg (by omega)]));rfl
  | 3,_=>(repeat (first | rw [if_pos (by omega)] | rw [if_neg (by omega)]));rfl
  | 4,_=>(repeat (first | rw [if_pos (by omega)] | rw [if_neg (by omega)]));rfl
  | 5,_=>(repeat (first | rw [if_pos (by omega)] | rw [if_neg (by omega)]));rfl
  | 6,_=>(repeat (first | rw [if_pos (by omega)] | rw [if_neg (by omega)]));rfl
 ·unfold put7
  repeat' (first | with_reducible exact Only.refl _ _ | refine Only.setCell ?_ (.inl (by simp)) _)
structure SX (w wr:World) (a:Option Addr) (xs:List St) (j f b:Nat):Prop where
 only:Only [] w wr
 lf:(letsB (xs.take j)).length=f
 lb:b+(tuO (xs.take j)).length=xs.length
 row:xs=[]∨∃ g cur,a=some ⟨g,0,none⟩∧w.heap.size≤g∧wr.heap[g]?=some (.cells cur 61 (0,0))∧xs.length*7≤cur.size∧
  SsAt wr (fun k=>w.heap.size≤k∧k≠g) g 0 (letsB (xs.take j))∧SsAt wr (fun k=>w.heap.size≤k∧k≠g) g b (tuO (xs.take j))
theorem SX.begin {w w1:World} {a:Option Addr} {xs:List St} {B:Nat→Prop} {cap:Nat} (ho:Only [] w w1) (h:CSt w1 w.heap.size (.slice a xs.length cap) B xs):SX w w1 a xs 0 0 xs.length:=by
 obtain ⟨a',cap',e,_,hx⟩:=h
 cases e
 refine ⟨ho,by simp [letsB],by simp [tuO],hx.imp id ?_⟩
 rintro ⟨g,cur,h1,h2,h3,h4,-⟩
 exact ⟨g,cur,h1,h2,h3,h4,by rw [List.take_zero];unfold letsB SsAt;trivial,by rw [List.take_zero];unfold tuO SsAt;trivial⟩
theorem SX.quiet {w wr w':World} {a:Option Addr} {xs:List St} {j f b:Nat} (h:SX w wr a xs j f b) (ho:Only [] wr w'):SX w w' a xs j f b:=by
 obtain ⟨h1,h2,h3,h4⟩:=h
 refine ⟨h1.trans ho (by simp),h2,h3,h4.imp id ?_⟩
 rintro ⟨g,cur,e1,e2,e3,e4,e5,e6⟩
 have hl:=lt_of_heap e3
 exact ⟨g,cur,e1,e2,ho.heap e3 (by simp),e4,SsAt.aside (ho.mono (by simp)) (fun e=>e.2 rfl) _ _ (fun c _ _=>cell_same ho hl c) e5,SsAt.aside (ho.mono (by simp)) (fun e=>e.2 rfl) _ _ (fun c _ _=>cell_same ho hl c) e6⟩
theorem SX.between {w wr:World} {a:Option Addr} {xs:List St} {j f b:Nat} (h:SX w wr a xs j f b) (hj:j < xs.length):f < b∧b≤xs.length∧f+(xs.length - b)=j:=by
 have h1:=h.lf
 have h2:=h.lb
 have h3:=lets_len (xs.take j)
 rw [List.length_take] at h3
 omega
theorem SX.place {w wr:World} {a:Option Addr} {xs:List St} {j f b i:Nat} (h:SX w wr a xs j f b) (hi:i < xs.length):∃ g u0 u1 u2 u3 u4 u5 u6,a=some ⟨g,0,none⟩∧w.heap.size≤g∧g < wr.heap.size∧
  wr.cell? ⟨g,i*7,none⟩=some u0∧wr.cell? ⟨g,i*7+1,none⟩=some u1∧wr.cell? ⟨g,i*7+2,none⟩=some u2∧wr.cell? ⟨g,i*7+3,none⟩=some u3∧wr.cell? ⟨g,i*7+4,none⟩=some u4∧wr.cell? ⟨g,i*7+5,none⟩=some u5∧wr.cell? ⟨g,i*7+6,none⟩=some u6∧
  ∀ c,wr.frozen? ⟨g,c,none⟩=false:=by
 rcases h.row with rfl | ⟨g,cur,rfl,hg,hb,hs,-⟩
 ·simp at hi
 ·have hc:∀ k,k < 7→∃ u,wr.cell? ⟨g,i*7+k,none⟩=some u:=fun k hk=>⟨_,by rw [cell_at _ hb];exact Array.getElem?_eq_getElem (by omega)⟩
  obtain ⟨u0,h0⟩:=hc 0 (by omega)
  obtain ⟨u1,h1⟩:=hc 1 (by omega)
  obtain ⟨u2,h2⟩:=hc 2 (by omega)
  obtain ⟨u3,h3⟩:=hc 3 (by omega)
  obtain ⟨u4,h4⟩:=hc 4 (by omega)
  obtain ⟨u5,h5⟩:=hc 5 (by omega)
  obtain ⟨u6,h6⟩:=hc 6 (by omega)
  exact ⟨g,u0,u1,u2,u3,u4,u5,u6,rfl,hg,lt_of_heap hb,by simpa using h0,h1,h2,h3,h4,h5,h6,fun c=>free_at c hb⟩
section
variable {w wr:World} {g:Nat} {xs:List St} {j f b:Nat} {x:St} {v0 v1 v2 v3 v4 v5 v6:Value}
theorem SX.putLet (h:SX w wr (some ⟨g,0,none⟩) xs j f b) (hx:xs[j]?=some x) (hk:x.kind=1) (hv:SV wr (fun k=>w.heap.size≤k∧k≠g) x [v0,v1,v2,v3,v4,v5,v6]) :
  SX w (put7 wr g f v0 v1 v2 v3 v4 v5 v6) (some ⟨g,0,none⟩) xs (j+1) (f+1) b:=by
 have hbt:=h.between (List.getElem?_eq_some_iff.1 hx).1
 obtain ⟨h1,h2,h3,h4⟩:=h
 rcases h4 with rfl | ⟨g',cur,e,e2,e3,e4,e5,e6⟩
 ·simp at hx
 ·cases e
  obtain ⟨cur',p1,p2,p3,p4,p5⟩:=put7_row (i:=f) e3 (by omega) v0 v1 v2 v3 v4 v5 v6
  have hn:¬ (w.heap.size≤g∧g≠g):=fun e=>e.2 rfl
  have t1:=letsB_snoc x (xs.take j)
  have t2:=tuO_snoc x (xs.take j)
  rw [if_pos hk] at t1 t2
  rw [List.nil_append] at t2
  refine ⟨h1.trans p5 (fun k hk=>.inr (by rw [List.mem_singleton.1 hk];exact e2)),?_,?_,.inr ⟨g,cur',rfl,e2,p1,by rw [p2];exact e4,?_,?_⟩⟩
  ·rw [take_at hx,t1,List.length_append,h2];rfl
  ·rw [take_at hx,t2];exact h3
  ·rw [take_at hx,t1]
   exact SsAt.snoc (SV.kept p5 (by simp) (fun _ h=>h) _ _ hv) _ _ (SsAt.aside p5 hn _ _ (fun c c1 c2=>p3 c (.inl (by omega))) e5) (fun i hi=>by rw [Nat.zero_add,h2];exact p4 i hi)
  ·rw [take_at hx,t2]
   exact SsAt.aside p5 hn _ _ (fun c c1 c2=>p3 c (.inr (by omega))) e6
theorem SX.putOther (h:SX w wr (some ⟨g,0,none⟩) xs j f (b+1)) (hx:xs[j]?=some x) (hk:x.kind≠1) (hv:SV wr (fun k=>w.heap.size≤k∧k≠g) (tuS x) [v0,v1,v2,v3,v4,v5,v6]) :
  SX w (put7 wr g b v0 v1 v2 v3 v4 v5 v6) (some ⟨g,0,none⟩) xs (j+1) f b:=by
 have hbt:=h.between (List.getElem?_eq_some_iff.1 hx).1
 obtain ⟨h1,h2,h3,h4⟩:=h
 rcases h4 with rfl | ⟨g',cur,e,e2,e3,e4,e5,e6⟩
 ·simp at hx
 ·cases e
  obtain ⟨cur',p1,p2,p3,p4,p5⟩:=put7_row (i:=b) e3 (by omega) v0 v1 v2 v3 v4 v5 v6
  have hn:¬ (w.heap.size≤g∧g≠g):=fun e=>e.2 rfl
  have t1:=letsB_snoc x (xs.take j)
  have t2:=tuO_snoc x (xs.take j)
  rw [if_neg hk] at t1 t2
  rw [List.append_nil] at t1
  refine ⟨h1.trans p5 (fun k hk=>.inr (by rw [List.mem_singleton.1 hk];exact e2)),?_,?_,.inr ⟨g,cur',rfl,e2,p1,by rw [p2];exact e4,?_,?_⟩⟩
  ·rw [take_at hx,t1];exact h2
  ·rw [take_at hx,t2,List.length_append]
   show b+(1+_)=_
   omega
  ·rw [take_at hx,t1]
   exact SsAt.aside p5 hn _ _ (fun c c1 c2=>p3 c (.inl (by omega))) e5
  ·rw [take_at hx,t2]
   show SsAt _ _ g b (tuS x :: tuO (xs.take j))
   unfold SsAt
   exact ⟨⟨_,SV.kept p5 (by simp) (fun _ h=>h) _ _ hv,p4⟩,SsAt.aside p5 hn _ _ (fun c c1 c2=>p3 c (.inr (by omega))) e6⟩
end
theorem SX.whole {w wr:World} {a:Option Addr} {xs:List St} {f b cap:Nat} (h:SX w wr a xs xs.length f b) (hc:xs.length≤cap):SsV wr (fun k=>w.heap.size≤k) (.slice a xs.length cap) (tuB xs):=by
 obtain ⟨h1,h2,h3,h4⟩:=h
 rw [List.take_length] at h2 h3 h4
 have:=lets_len xs
 refine ⟨a,cap,by rw [tuB_len],by rw [tuB_len];exact hc,?_⟩
 rcases h4 with rfl | ⟨g,cur,e1,e2,e3,e4,e5,e6⟩
 ·exact .inl tuB_nil
 ·refine .inr ⟨g,e1,e2,?_⟩
  unfold tuB
  exact SsAt.app _ _ 0 (SsAt.wide (fun _ h=>h.1) _ _ e5) (by rw [Nat.zero_add,h2,show f=b by omega];exact SsAt.wide (fun _ h=>h.1) _ _ e6)
end Go.Proofs.Ytagkbbcpbebapaa
namespace Go.Proofs.Ytagkbbcpbebapaa
open Go.RowKit Go.Maps
set_option linter.unusedSimpArgs false
set_option linter.unusedVariables false
def BkP (N:Nat):Prop:=∀ (xs:List St),sizeSs xs≤N→wB xs→pB xs→∀ (w:World) (v:Value) (B:Nat→Prop),SsV w B v xs→
 Calls Try.prog 24 #[v] w fun en w'=>∃ a cap,en=.returned (.slice a xs.length cap)∧SsV w' (fun b=>w.heap.size≤b) (.slice a xs.length cap) (tuB xs)∧Only [] w w'
set_option maxRecDepth 100000 in
set_option maxHeartbeats 8000000 in
theorem iblock_step (N:Nat) (hNN:N≤1000000) (IS:∀ M,M < N→BkP M):BkP N:=by
 intro xs hN hwb hpb w v B hv
 have hlen:=sizeSs_len xs
 have KC:=cloneS_any v xs w B hv (by omega)
 obtain ⟨a,cap,rfl,-⟩:=id hv
 obtain ⟨n,hn⟩:∃ n,n=xs.length:=⟨_,rfl⟩
 rw [← hn] at hlen KC hv⊢
 have HV:=Hd hv
 have HN:=Hd hn
 have HWB:=Hd hwb
 have HPB:=Hd hpb
 have hnb:n≤1000000:=by omega
 clear hn hv hwb hpb
 go_enter Try.func24,Try.ntmps24
 go_wp2_with fail
 go_step3
 go_wp2_with fail
 refine KC.mono ?_
 rintro en w1 ⟨v',rfl,hc,o1⟩
 obtain ⟨a',cap',hv',hcap',-⟩:=id hc
 subst hv'
 have HSX:=Hd (SX.begin o1 hc)
 rw [← HN.out] at HSX hcap'⊢
 have HC:=Hd hcap'
 clear KC hcap' o1 hc
 go_wp2_with fail
 go_step3
 go_wp2_with fail
 go_loopg [4,5,14] n (fun gk s4 s5 ix wr=>∃ (j f b:Nat),j≤n∧j+gk=n∧ix=.int .i64 (j:Int)∧s4=.int .i64 (f:Int)∧s5=.int .i64 (b:Int)∧Hid (SX w wr a' xs j f b))
 case atStart=>exact ⟨0,0,n,Nat.zero_le _,by omega,rfl,rfl,rfl,HSX⟩
 case round=>
  clear HSX
  obtain ⟨j,f,b,hjn,hjg,rfl,rfl,rfl,HSX⟩:=hrel
  by_cases hlt:j < n
  ·have hlt':(j:Int) < (n:Int):=by omega
   have j0:(0:Int)≤(j:Int):=by omega
   obtain ⟨-,gr,k,nm,ys,nn,bd,els,p,a0,c0,a1,c1,a2,c2,rfl,he,x0,x1,x2,x3,x4,x5,x6,hv0,hv1,hv2⟩:=(HV.out.quiet HSX.out.only).elem hlt
   have hT1:=sizeSs_mem he
   rw [sizeS_mk] at hT1
   have hws:=wB_mem HWB.out he
   have hps:=pB_mem HPB.out he
   unfold wS at hws
   unfold pS at hps
   obtain ⟨hik,-,-,hwbd,hwels⟩:=hws
   obtain ⟨hpe,hpb,hpbd,hpels⟩:=hps
   have hbt:=HSX.out.between (by rw [← HN.out];exact hlt)
   rw [← HN.out] at hbt
   obtain ⟨hfb,hbn,-⟩:=hbt
   have KE:=fun W hV=>iexprs_all 1000000 (Nat.le_refl _) ys (by omega) W (.slice a0 ys.length c0) B hV
   have KB1:=fun W hV=>IS (sizeSs bd) (by omega) bd (Nat.le_refl _) hwbd hpbd W (.slice a1 bd.length c1) B hV
   have KB2:=fun W hV=>IS (sizeSs els) (by omega) els (Nat.le_refl _) hwels hpels W (.slice a2 els.length c2) B hV
   obtain ⟨L0,hL0⟩:∃ L,L=ys.length:=⟨_,rfl⟩
   obtain ⟨L1,hL1⟩:∃ L,L=bd.length:=⟨_,rfl⟩
   obtain ⟨L2,hL2⟩:∃ L,L=els.length:=⟨_,rfl⟩
   obtain ⟨sn,hsn⟩:∃ sn,sn=strOf nm:=⟨_,rfl⟩
   rw [← hL0] at x2 hv0 KE hik
   rw [← hL1] at x4 hv1 KB1
   rw [← hL2] at x5 hv2 KB2
   rw [← hsn] at x1
   have HE:=Hd he
   have HS:=Hd hsn
   have HV0:=Hd hv0
   have HV1:=Hd hv1
   have HV2:=Hd hv2
   have HKE:=Hd KE
   have HKB1:=Hd KB1
   have HKB2:=Hd KB2
   have HL1:=Hd (And.intro hL1 hL2)
   have HPE:=Hd (And.intro hpe hpb)
   clear he hL0 hL1 hL2 hsn hv0 hv1 hv2 hT1 hlen hN KE KB1 KB2 hwbd hwels hpbd hpels hpe hpb
   go_upto_region 6 with (fail)
   have oA:=(Only.refl [] wr).alloc (.cells #[.int .i64 k,.string sn,.slice a0 L0 c0,.int .i64 nn,.slice a1 L1 c1,.slice a2 L2 c2,.int .i64 p] 61)
   have hb:=heap_new wr (.cells #[.int .i64 k,.string sn,.slice a0 L0 c0,.int .i64 nn,.slice a1 L1 c1,.slice a2 L2 c2,.int .i64 p] 61)
   obtain ⟨gb,hgb⟩:∃ gb,gb=wr.heap.size:=⟨_,rfl⟩
   rw [← hgb] at hb⊢
   generalize wr.alloc (.cells #[.int .i64 k,.string sn,.slice a0 L0 c0,.int .i64 nn,.slice a1 L1 c1,.slice a2 L2 c2,.int .i64 p] 61)=w2 at oA hb⊢
   have oD:Only [] w2 w2.drew:=(Only.refl [] w2).drew
   have hbd:=oD.heap hb (by simp)
   have hgs:=lt_of_heap hb
   have oAD:=oA.trans oD (by simp)
   replace HV0:=Hd (HV0.out.quiet oAD)
   replace HV1:=Hd (HV1.out.quiet oAD)
   replace HV2:=Hd (HV2.out.quiet oAD)
   have HGL:=Hd (show wr.heap.size≤gb by omega)
   refine wp_region_C (S:=fun w'=>w'.cell? ⟨gb,2,none⟩=some (.slice a0 L0 c0)∧w'.cell? ⟨gb,4,none⟩=some (.slice a1 L1 c1)∧w'.cell? ⟨gb,5,none⟩=some (.slice a2 L2 c2)) [0,1,2,3,4,5,6,7,8,9,11,13] (by kernel_rfl) ⟨cell_at 2 hbd,cell_at 4 hbd,cell_at 5 hbd⟩ (fun hH=>?_)
   have HO3:=Hd oAD
   have HB3:=Hd hbd
   have HG3:=Hd (show gb < w2.drew.heap.size from lt_of_heap hbd)
   clear oA oD oAD hb hgb hgs hbd x0 x1 x2 x3 x4 x5 x6
   generalize w2.drew=w3 at HV0 HV1 HV2 HO3 HB3 HG3 hH⊢
   refine takeP_list (i:=0) (v:=?_) rfl (by kernel_rfl) (by kernel_rfl) (by kernel_rfl) (fun _ _ _ h=>h) (Or.inl ⟨by rfl,?_⟩) ?_
   rotate_left
   ·((intro w hSw;(try dsimp only at hSw);go_simp);try with_reducible rfl)
   simp only [Act.put,List.setIfInBounds_toArray,List.set_cons_zero,List.set_cons_succ]
   refine takeC_list (i:=1) (v:=?_) rfl (by kernel_rfl) (by kernel_rfl) (by kernel_rfl) (by kernel_rfl) (fun _ _ _ h=>h) (Or.inl ⟨by rfl,?_⟩) hH ?_
   rotate_left
   ·((intro w hSw;(try dsimp only at hSw);go_simp);try with_reducible rfl)
   simp only [Act.put,List.setIfInBounds_toArray,List.set_cons_zero,List.set_cons_succ]
   refine takeP_list (i:=3) (v:=?_) rfl (by kernel_rfl) (by kernel_rfl) (by kernel_rfl) (fun _ _ _ h=>h) (Or.inl ⟨by rfl,?_⟩) ?_
   rotate_left
   ·((intro w hSw;(try dsimp only at hSw);go_simp);try with_reducible rfl)
   simp only [Act.put,List.setIfInBounds_toArray,List.set_cons_zero,List.set_cons_succ]
   refine takeC_list (i:=4) (v:=?_) rfl (by kernel_rfl) (by kernel_rfl) (by kernel_rfl) (by kernel_rfl) (fun _ _ _ h=>h) (Or.inl ⟨by rfl,?_⟩) hH ?_
   rotate_left
   ·((intro w hSw;(try dsimp only at hSw);go_simp);try with_reducible rfl)
   simp only [Act.put,List.setIfInBounds_toArray,List.set_cons_zero,List.set_cons_succ]
   refine takeP_list (i:=6) (v:=?_) rfl (by kernel_rfl) (by kernel_rfl) (by kernel_rfl) (fun _ _ _ h=>h) (Or.inl ⟨by rfl,?_⟩) ?_
   rotate_left
   ·((intro w hSw;(try dsimp only at hSw);go_simp);try with_reducible rfl)
   simp only [Act.put,List.setIfInBounds_toArray,List.set_cons_zero,List.set_cons_succ]
   refine takeC_list (i:=7) (v:=?_) rfl (by kernel_rfl) (by kernel_rfl) (by kernel_rfl) (by kernel_rfl) (fun _ _ _ h=>h) (Or.inl ⟨by rfl,?_⟩) hH ?_
   rotate_left
   ·((intro w hSw;(try dsimp only at hSw);go_simp);try with_reducible rfl)
   simp only [Act.put,List.setIfInBounds_toArray,List.set_cons_zero,List.set_cons_succ]
   refine readyC_in (i:=2) (by kernel_rfl) rfl (fun K hK=>?_)
   go_simp
   refine (HKE.out w3 HV0.out).mono ?_
   rintro en w4 ⟨a5,c5,rfl,hr0,o4⟩
   have HB4:=Hd (o4.heap HB3.out (by simp))
   refine hK.out _ _ ⟨cell_at 2 HB4.out,cell_at 4 HB4.out,cell_at 5 HB4.out⟩ (fun hH=>?_)
   clear hK K HKE
   have HR0:=Hd (hr0.kept (B':=fun k=>w3.heap.size≤k) (Only.refl [] w4) (by simp) (fun _ h=>h))
   have HO4:=Hd (HO3.out.trans o4 (by simp))
   have HZ4:=Hd o4.size
   replace HV1:=Hd (HV1.out.quiet o4)
   replace HV2:=Hd (HV2.out.quiet o4)
   clear hr0 o4 HB3 HO3 HV0
   refine takeP_list (i:=9) (v:=?_) rfl (by kernel_rfl) (by kernel_rfl) (by kernel_rfl) (fun _ _ _ h=>h) (Or.inl ⟨by rfl,?_⟩) ?_
   rotate_left
   ·((intro w hSw;(try dsimp only at hSw);go_simp);try with_reducible rfl)
   simp only [Act.put,List.setIfInBounds_toArray,List.set_cons_zero,List.set_cons_succ]
   refine readyC_in (i:=5) (by kernel_rfl) rfl (fun K hK=>?_)
   go_simp
   refine (HKB1.out w4 HV1.out).mono ?_
   rintro en w5 ⟨a6,c6,rfl,hr1,o5⟩
   have HB5:=Hd (o5.heap HB4.out (by simp))
   refine hK.out _ _ ⟨cell_at 2 HB5.out,cell_at 4 HB5.out,cell_at 5 HB5.out⟩ (fun hH=>?_)
   clear hK K HKB1
   have HR1:=Hd (hr1.kept (B':=fun k=>w3.heap.size≤k) (Only.refl [] w5) (by simp) (fun _ h=>Nat.le_trans HZ4.out h))
   replace HR0:=Hd (HR0.out.quiet o5)
   have HO5:=Hd (HO4.out.trans o5 (by simp))
   have HZ5:=Hd (Nat.le_trans HZ4.out o5.size)
   replace HV2:=Hd (HV2.out.quiet o5)
   clear hr1 o5 HB4 HO4 HV1 HZ4
   refine readyC_in (i:=8) (by kernel_rfl) rfl (fun K hK=>?_)
   go_simp
   refine (HKB2.out w5 HV2.out).mono ?_
   rintro en w6 ⟨a7,c7,rfl,hr2,o6⟩
   have HB6:=Hd (o6.heap HB5.out (by simp))
   refine hK.out _ _ ⟨cell_at 2 HB6.out,cell_at 4 HB6.out,cell_at 5 HB6.out⟩ (fun hH=>?_)
   clear hK K HKB2
   have HR2:=Hd (hr2.kept (B':=fun k=>w3.heap.size≤k) (Only.refl [] w6) (by simp) (fun _ h=>Nat.le_trans HZ5.out h))
   replace HR0:=Hd (HR0.out.quiet o6)
   replace HR1:=Hd (HR1.out.quiet o6)
   have HO6:=Hd (HO5.out.trans o6 (by simp))
   clear hr2 o6 HB5 HO5 HV2 HZ5 hH
   have q2:w6.cell? ⟨gb,2,none⟩=some (.slice a0 L0 c0):=cell_at 2 HB6.out
   have f2:=free_at 2 HB6.out
   refine readyC_out (i:=10) (by kernel_rfl) (by kernel_rfl) rfl (fun K hK=>?_)
   go_simp
   refine hK.out _ _ ?_
   clear hK K q2 f2
   have oz:Only [gb] w6 (w6.setCell ⟨gb,2,none⟩ (.slice a5 L0 c5)):=(Only.refl _ _).setCell (.inl (by simp)) _
   have hb7:(w6.setCell ⟨gb,2,none⟩ (.slice a5 L0 c5)).heap[gb]?=some (.cells #[.int .i64 k,.string sn,.slice a5 L0 c5,.int .i64 nn,.slice a1 L1 c1,.slice a2 L2 c2,.int .i64 p] 61 (0,0)):=heap_cell (i:=2) _ HB6.out
   have HOZ:=Hd oz
   have HB7:=Hd hb7
   clear oz hb7 HB6
   generalize w6.setCell ⟨gb,2,none⟩ (.slice a5 L0 c5)=w7 at HOZ HB7⊢
   refine takeP_list (i:=11) (v:=?_) rfl (by kernel_rfl) (by kernel_rfl) (by kernel_rfl) (fun _ _ _ h=>h) (Or.inl ⟨by rfl,?_⟩) ?_
   rotate_left
   ·((intro w hSw;(try dsimp only at hSw);go_simp);try with_reducible rfl)
   simp only [Act.put,List.setIfInBounds_toArray,List.set_cons_zero,List.set_cons_succ]
   have q2:w7.cell? ⟨gb,4,none⟩=some (.slice a1 L1 c1):=cell_at 4 HB7.out
   have f2:=free_at 4 HB7.out
   refine readyC_out (i:=12) (by kernel_rfl) (by kernel_rfl) rfl (fun K hK=>?_)
   go_simp
   refine hK.out _ _ ?_
   clear hK K q2 f2
   have oz:Only [gb] w7 (w7.setCell ⟨gb,4,none⟩ (.slice a6 L1 c6)):=(Only.refl _ _).setCell (.inl (by simp)) _
   have hb7:(w7.setCell ⟨gb,4,none⟩ (.slice a6 L1 c6)).heap[gb]?=some (.cells #[.int .i64 k,.string sn,.slice a5 L0 c5,.int .i64 nn,.slice a6 L1 c6,.slice a2 L2 c2,.int .i64 p] 61 (0,0)):=heap_cell (i:=4) _ HB7.out
   replace HOZ:=Hd (HOZ.out.trans oz (fun k hk=>.inl hk))
   have HB8:=Hd hb7
   clear oz hb7 HB7
   generalize w7.setCell ⟨gb,4,none⟩ (.slice a6 L1 c6)=w8 at HOZ HB8⊢
   refine takeP_list (i:=13) (v:=?_) rfl (by kernel_rfl) (by kernel_rfl) (by kernel_rfl) (fun _ _ _ h=>h) (Or.inl ⟨by rfl,?_⟩) ?_
   rotate_left
   ·((intro w hSw;(try dsimp only at hSw);go_simp);try with_reducible rfl)
   simp only [Act.put,List.setIfInBounds_toArray,List.set_cons_zero,List.set_cons_succ]
   have q2:w8.cell? ⟨gb,5,none⟩=some (.slice a2 L2 c2):=cell_at 5 HB8.out
   have f2:=free_at 5 HB8.out
   refine readyC_out (i:=14) (by kernel_rfl) (by kernel_rfl) rfl (fun K hK=>?_)
   go_simp
   refine hK.out _ _ ?_
   clear hK K q2 f2
   have oz:Only [gb] w8 (w8.setCell ⟨gb,5,none⟩ (.slice a7 L2 c7)):=(Only.refl _ _).setCell (.inl (by simp)) _
   have hb7:(w8.setCell ⟨gb,5,none⟩ (.slice a7 L2 c7)).heap[gb]?=some (.cells #[.int .i64 k,.string sn,.slice a5 L0 c5,.int .i64 nn,.slice a6 L1 c6,.slice a7 L2 c7,.int .i64 p] 61 (0,0)):=heap_cell (i:=5) _ HB8.out
   replace HOZ:=Hd (HOZ.out.trans oz (fun k hk=>.inl hk))
   have HB9:=Hd hb7
   clear oz hb7 HB8
   generalize w8.setCell ⟨gb,5,none⟩ (.slice a7 L2 c7)=w9 at HOZ HB9⊢
   refine wpAnyC_done (by kernel_rfl) ?_ _
   have HO9:=Hd (HO6.out.trans HOZ.out (fun k hk=>.inr (by rw [List.mem_singleton.1 hk];exact HGL.out)))
   have hns:∀ k∈[gb],¬ (w3.heap.size≤k):=by
    intro k hk
    rw [List.mem_singleton.1 hk]
    have:=HG3.out
    omega
   replace HR0:=Hd (HR0.out.kept HOZ.out hns (fun _ h=>h))
   replace HR1:=Hd (HR1.out.kept HOZ.out hns (fun _ h=>h))
   replace HR2:=Hd (HR2.out.kept HOZ.out hns (fun _ h=>h))
   have HX9:=Hd (HSX.out.quiet HO9.out)
   obtain ⟨g,-,-,-,-,-,-,-,rfl,hg1,hg2,-⟩:=HSX.out.place (i:=f) (by rw [← HN.out];omega)
   have hgs:=HG3.out
   have hgl:=HGL.out
   have HP0:=Hd (HR0.out.kept (B':=fun q=>w.heap.size≤q∧q≠g∧q≠gb) (Only.refl [] w9) (by simp) (fun q hq=>⟨by omega,by omega,by omega⟩))
   have HP1:=Hd (HR1.out.kept (B':=fun q=>w.heap.size≤q∧q≠g∧q≠gb) (Only.refl [] w9) (by simp) (fun q hq=>⟨by omega,by omega,by omega⟩))
   have HP2:=Hd (HR2.out.kept (B':=fun q=>w.heap.size≤q∧q≠g∧q≠gb) (Only.refl [] w9) (by simp) (fun q hq=>⟨by omega,by omega,by omega⟩))
   have hgn:g≠gb:=by omega
   have HWR:=Hd (Nat.le_trans hg1 (Nat.le_of_lt (Nat.lt_of_lt_of_le hg2 hgl)))
   clear hns HOZ HO6 HG3 HR0 HR1 HR2 hgs hgl hg1 hg2
   have hk8:k=1∨k=2∨k=3∨k=4∨k=5∨k=6∨k=7∨k=8:=by rcases hik with ⟨h,_⟩ | ⟨h,_⟩ | ⟨h,_⟩<;>omega
   clear hik
   have y0:w9.cell? ⟨gb,0,none⟩=some (.int .i64 k):=cell_at 0 HB9.out
   have y1:w9.cell? ⟨gb,1,none⟩=some (.string sn):=cell_at 1 HB9.out
   have y2:w9.cell? ⟨gb,2,none⟩=some (.slice a5 L0 c5):=cell_at 2 HB9.out
   have y3:w9.cell? ⟨gb,3,none⟩=some (.int .i64 nn):=cell_at 3 HB9.out
   have y4:w9.cell? ⟨gb,4,none⟩=some (.slice a6 L1 c6):=cell_at 4 HB9.out
   have y5:w9.cell? ⟨gb,5,none⟩=some (.slice a7 L2 c7):=cell_at 5 HB9.out
   have y6:w9.cell? ⟨gb,6,none⟩=some (.int .i64 p):=cell_at 6 HB9.out
   have f0:(0:Int)≤(f:Int):=by omega
   by_cases h1:k=1
   ·subst h1
    have fl:(f:Int) < (n:Int):=by omega
    have HSV:Hid (SV w9 (fun q=>w.heap.size≤q∧q≠g) (.mk 1 nm ys nn bd els p) [.int .i64 1,.string sn,.slice a5 L0 c5,.int .i64 nn,.slice a6 L1 c6,.slice a7 L2 c7,.int .i64 p]):=Hd (by
     have e1:=HPE.out.2 (by omega)
     have e2:=HPE.out.1 (by omega)
     have h1:=HP1.out
     have h2:=HP2.out
     rw [e1,tuB_nil] at h1
     rw [e2,tuB_nil] at h2
     rw [HS.out,e1,e2]
     exact SV.mk' (HP0.out.kept (Only.refl [] w9) (by simp) (fun q hq=>⟨hq.1,hq.2.1⟩)) (h1.kept (Only.refl [] w9) (by simp) (fun q hq=>⟨hq.1,hq.2.1⟩)) (h2.kept (Only.refl [] w9) (by simp) (fun q hq=>⟨hq.1,hq.2.1⟩)))
    obtain ⟨g',u0,u1,u2,u3,u4,u5,u6,hge,-,-,z0,z1,z2,z3,z4,z5,z6,fz⟩:=HX9.out.place (i:=f) (by rw [← HN.out];omega)
    cases hge
    have HPL:=Hd (HX9.out.putLet HE.out rfl HSV.out)
    clear hk8 hlt' hfb hbn HSV HX9 HP0 HP1 HP2 HPE HS HL1 HSX HO9 HGL
    go_wp2_with fail
    go_roundg (n - (j+1))
    case measure=>omega
    case rel=>exact ⟨j+1,f+1,b,by omega,by omega,by go_num,by go_num,rfl,HPL⟩
   ·obtain ⟨b',rfl⟩:∃ b',b=b'+1:=⟨b - 1,by omega⟩
    have bl:(b':Int) < (n:Int):=by omega
    have b0:(0:Int)≤(b':Int):=by omega
    have k1:(k == 1)=false:=by simpa using h1
    have HSV:Hid (∀ W,Only [gb] w9 W→SV W (fun q=>w.heap.size≤q∧q≠g) (tuS (.mk k nm ys nn bd els p)) [.int .i64 (flipK k),.string sn,.slice a5 L0 c5,.int .i64 nn,.slice a6 L1 c6,.slice a7 L2 c7,.int .i64 p]):=Hd (fun W hW=>by
     rw [HS.out,tu_mk]
     have hn:∀ q∈[gb],¬ (w.heap.size≤q∧q≠g∧q≠gb):=fun q hq e=>e.2.2 (List.mem_singleton.1 hq)
     exact SV.mk' (HP0.out.kept hW hn (fun q hq=>⟨hq.1,hq.2.1⟩)) (HP1.out.kept hW hn (fun q hq=>⟨hq.1,hq.2.1⟩)) (HP2.out.kept hW hn (fun q hq=>⟨hq.1,hq.2.1⟩)))
    clear HP0 HP1 HP2 HPE HS HL1
    rcases hk8 with rfl | rfl | rfl | rfl | rfl | rfl | rfl | rfl
    ·exact absurd rfl h1
    ·skip
     have HOW:=Hd (Only.refl [gb] w9)
     obtain ⟨g',u0,u1,u2,u3,u4,u5,u6,hge,-,-,z0,z1,z2,z3,z4,z5,z6,fz⟩:=HX9.out.place (i:=b') (by rw [← HN.out];omega)
     cases hge
     have HPL:=Hd (HX9.out.putOther HE.out h1 (HSV.out _ HOW.out))
     clear hlt' hfb hbn HSV HX9 h1 HSX HO9 HGL
     go_wp2_with fail
     go_roundg (n - (j+1))
     case measure=>omega
     case rel=>exact ⟨j+1,f,b',by omega,by omega,by go_num,rfl,by go_num,HPL⟩
    ·skip
     have f9:=free_at 0 HB9.out
     go_upto_region 19 with (fail)
     have HOW:=Hd (show Only [gb] w9 (w9.setCell ⟨gb,0,none⟩ (.int .i64 4)) from (Only.refl _ _).setCell (.inl (by simp)) _)
     have hb7:(w9.setCell ⟨gb,0,none⟩ (.int .i64 4)).heap[gb]?=some (.cells #[.int .i64 4,.string sn,.slice a5 L0 c5,.int .i64 nn,.slice a6 L1 c6,.slice a7 L2 c7,.int .i64 p] 61 (0,0)):=heap_cell (i:=0) _ HB9.out
     have HX10:=Hd (HSX.out.quiet (HO9.out.trans HOW.out (fun q hq=>.inr (by rw [List.mem_singleton.1 hq];exact HGL.out))))
     generalize w9.setCell ⟨gb,0,none⟩ (.int .i64 4)=w10 at HOW hb7 HX10⊢
     clear y0 y1 y2 y3 y4 y5 y6 f9
     have y0:w10.cell? ⟨gb,0,none⟩=some (.int .i64 4):=cell_at 0 hb7
     have y1:w10.cell? ⟨gb,1,none⟩=some (.string sn):=cell_at 1 hb7
     have y2:w10.cell? ⟨gb,2,none⟩=some (.slice a5 L0 c5):=cell_at 2 hb7
     have y3:w10.cell? ⟨gb,3,none⟩=some (.int .i64 nn):=cell_at 3 hb7
     have y4:w10.cell? ⟨gb,4,none⟩=some (.slice a6 L1 c6):=cell_at 4 hb7
     have y5:w10.cell? ⟨gb,5,none⟩=some (.slice a7 L2 c7):=cell_at 5 hb7
     have y6:w10.cell? ⟨gb,6,none⟩=some (.int .i64 p):=cell_at 6 hb7
     clear hb7
     obtain ⟨g',u0,u1,u2,u3,u4,u5,u6,hge,-,-,z0,z1,z2,z3,z4,z5,z6,fz⟩:=HX10.out.place (i:=b') (by rw [← HN.out];omega)
     cases hge
     have HPL:=Hd (HX10.out.putOther HE.out h1 (HSV.out _ HOW.out))
     clear hlt' hfb hbn HSV HX10 h1 HSX HO9 HGL
     go_wp2_with fail
     go_roundg (n - (j+1))
     case measure=>omega
     case rel=>exact ⟨j+1,f,b',by omega,by omega,by go_num,rfl,by go_num,HPL⟩
    ·skip
     have f9:=free_at 0 HB9.out
     go_upto_region 19 with (fail)
     have HOW:=Hd (show Only [gb] w9 (w9.setCell ⟨gb,0,none⟩ (.int .i64 3)) from (Only.refl _ _).setCell (.inl (by simp)) _)
     have hb7:(w9.setCell ⟨gb,0,none⟩ (.int .i64 3)).heap[gb]?=some (.cells #[.int .i64 3,.string sn,.slice a5 L0 c5,.int .i64 nn,.slice a6 L1 c6,.slice a7 L2 c7,.int .i64 p] 61 (0,0)):=heap_cell (i:=0) _ HB9.out
     have HX10:=Hd (HSX.out.quiet (HO9.out.trans HOW.out (fun q hq=>.inr (by rw [List.mem_singleton.1 hq];exact HGL.out))))
     generalize w9.setCell ⟨gb,0,none⟩ (.int .i64 3)=w10 at HOW hb7 HX10⊢
     clear y0 y1 y2 y3 y4 y5 y6 f9
     have y0:w10.cell? ⟨gb,0,none⟩=some (.int .i64 3):=cell_at 0 hb7
     have y1:w10.cell? ⟨gb,1,none⟩=some (.string sn):=cell_at 1 hb7
     have y2:w10.cell? ⟨gb,2,none⟩=some (.slice a5 L0 c5):=cell_at 2 hb7
     have y3:w10.cell? ⟨gb,3,none⟩=some (.int .i64 nn):=cell_at 3 hb7
     have y4:w10.cell? ⟨gb,4,none⟩=some (.slice a6 L1 c6):=cell_at 4 hb7
     have y5:w10.cell? ⟨gb,5,none⟩=some (.slice a7 L2 c7):=cell_at 5 hb7
     have y6:w10.cell? ⟨gb,6,none⟩=some (.int .i64 p):=cell_at 6 hb7
     clear hb7
     obtain ⟨g',u0,u1,u2,u3,u4,u5,u6,hge,-,-,z0,z1,z2,z3,z4,z5,z6,fz⟩:=HX10.out.place (i:=b') (by rw [← HN.out];omega)
     cases hge
     have HPL:=Hd (HX10.out.putOther HE.out h1 (HSV.out _ HOW.out))
     clear hlt' hfb hbn HSV HX10 h1 HSX HO9 HGL
     go_wp2_with fail
     go_roundg (n - (j+1))
     case measure=>omega
     case rel=>exact ⟨j+1,f,b',by omega,by omega,by go_num,rfl,by go_num,HPL⟩
    ·skip
     have HOW:=Hd (Only.refl [gb] w9)
     obtain ⟨g',u0,u1,u2,u3,u4,u5,u6,hge,-,-,z0,z1,z2,z3,z4,z5,z6,fz⟩:=HX9.out.place (i:=b') (by rw [← HN.out];omega)
     cases hge
     have HPL:=Hd (HX9.out.putOther HE.out h1 (HSV.out _ HOW.out))
     clear hlt' hfb hbn HSV HX9 h1 HSX HO9 HGL
     go_wp2_with fail
     go_roundg (n - (j+1))
     case measure=>omega
     case rel=>exact ⟨j+1,f,b',by omega,by omega,by go_num,rfl,by go_num,HPL⟩
    ·skip
     have HOW:=Hd (Only.refl [gb] w9)
     obtain ⟨g',u0,u1,u2,u3,u4,u5,u6,hge,-,-,z0,z1,z2,z3,z4,z5,z6,fz⟩:=HX9.out.place (i:=b') (by rw [← HN.out];omega)
     cases hge
     have HPL:=Hd (HX9.out.putOther HE.out h1 (HSV.out _ HOW.out))
     clear hlt' hfb hbn HSV HX9 h1 HSX HO9 HGL
     go_wp2_with fail
     go_roundg (n - (j+1))
     case measure=>omega
     case rel=>exact ⟨j+1,f,b',by omega,by omega,by go_num,rfl,by go_num,HPL⟩
    ·skip
     have f9:=free_at 0 HB9.out
     go_upto_region 19 with (fail)
     have HOW:=Hd (show Only [gb] w9 (w9.setCell ⟨gb,0,none⟩ (.int .i64 8)) from (Only.refl _ _).setCell (.inl (by simp)) _)
     have hb7:(w9.setCell ⟨gb,0,none⟩ (.int .i64 8)).heap[gb]?=some (.cells #[.int .i64 8,.string sn,.slice a5 L0 c5,.int .i64 nn,.slice a6 L1 c6,.slice a7 L2 c7,.int .i64 p] 61 (0,0)):=heap_cell (i:=0) _ HB9.out
     have HX10:=Hd (HSX.out.quiet (HO9.out.trans HOW.out (fun q hq=>.inr (by rw [List.mem_singleton.1 hq];exact HGL.out))))
     generalize w9.setCell ⟨gb,0,none⟩ (.int .i64 8)=w10 at HOW hb7 HX10⊢
     clear y0 y1 y2 y3 y4 y5 y6 f9
     have y0:w10.cell? ⟨gb,0,none⟩=some (.int .i64 8):=cell_at 0 hb7
     have y1:w10.cell? ⟨gb,1,none⟩=some (.string sn):=cell_at 1 hb7
     have y2:w10.cell? ⟨gb,2,none⟩=some (.slice a5 L0 c5):=cell_at 2 hb7
     have y3:w10.cell? ⟨gb,3,none⟩=some (.int .i64 nn):=cell_at 3 hb7
     have y4:w10.cell? ⟨gb,4,none⟩=some (.slice a6 L1 c6):=cell_at 4 hb7
     have y5:w10.cell? ⟨gb,5,none⟩=some (.slice a7 L2 c7):=cell_at 5 hb7
     have y6:w10.cell? ⟨gb,6,none⟩=some (.int .i64 p):=cell_at 6 hb7
     clear hb7
     obtain ⟨g',u0,u1,u2,u3,u4,u5,u6,hge,-,-,z0,z1,z2,z3,z4,z5,z6,fz⟩:=HX10.out.place (i:=b') (by rw [← HN.out];omega)
     cases hge
     have HPL:=Hd (HX10.out.putOther HE.out h1 (HSV.out _ HOW.out))
     clear hlt' hfb hbn HSV HX10 h1 HSX HO9 HGL
     go_wp2_with fail
     go_roundg (n - (j+1))
     case measure=>omega
     case rel=>exact ⟨j+1,f,b',by omega,by omega,by go_num,rfl,by go_num,HPL⟩
    ·skip
     have f9:=free_at 0 HB9.out
     go_upto_region 19 with (fail)
     have HOW:=Hd (show Only [gb] w9 (w9.setCell ⟨gb,0,none⟩ (.int .i64 7)) from (Only.refl _ _).setCell (.inl (by simp)) _)
     have hb7:(w9.setCell ⟨gb,0,none⟩ (.int .i64 7)).heap[gb]?=some (.cells #[.int .i64 7,.string sn,.slice a5 L0 c5,.int .i64 nn,.slice a6 L1 c6,.slice a7 L2 c7,.int .i64 p] 61 (0,0)):=heap_cell (i:=0) _ HB9.out
     have HX10:=Hd (HSX.out.quiet (HO9.out.trans HOW.out (fun q hq=>.inr (by rw [List.mem_singleton.1 hq];exact HGL.out))))
     generalize w9.setCell ⟨gb,0,none⟩ (.int .i64 7)=w10 at HOW hb7 HX10⊢
     clear y0 y1 y2 y3 y4 y5 y6 f9
     have y0:w10.cell? ⟨gb,0,none⟩=some (.int .i64 7):=cell_at 0 hb7
     have y1:w10.cell? ⟨gb,1,none⟩=some (.string sn):=cell_at 1 hb7
     have y2:w10.cell? ⟨gb,2,none⟩=some (.slice a5 L0 c5):=cell_at 2 hb7
     have y3:w10.cell? ⟨gb,3,none⟩=some (.int .i64 nn):=cell_at 3 hb7
     have y4:w10.cell? ⟨gb,4,none⟩=some (.slice a6 L1 c6):=cell_at 4 hb7
     have y5:w10.cell? ⟨gb,5,none⟩=some (.slice a7 L2 c7):=cell_at 5 hb7
     have y6:w10.cell? ⟨gb,6,none⟩=some (.int .i64 p):=cell_at 6 hb7
     clear hb7
     obtain ⟨g',u0,u1,u2,u3,u4,u5,u6,hge,-,-,z0,z1,z2,z3,z4,z5,z6,fz⟩:=HX10.out.place (i:=b') (by rw [← HN.out];omega)
     cases hge
     have HPL:=Hd (HX10.out.putOther HE.out h1 (HSV.out _ HOW.out))
     clear hlt' hfb hbn HSV HX10 h1 HSX HO9 HGL
     go_wp2_with fail
     go_roundg (n - (j+1))
     case measure=>omega
     case rel=>exact ⟨j+1,f,b',by omega,by omega,by go_num,rfl,by go_num,HPL⟩
  ·obtain rfl:j=n:=by omega
   go_wp2_with fail
   rw [Exit.noGoto_ret]
   go_ret
   refine ⟨a',cap',rfl,?_,HSX.out.only⟩
   rw [HN.out]
   have h1:=HSX.out
   rw [HN.out] at h1
   exact h1.whole (by rw [← HN.out];exact HC.out)
theorem iblock_all (N:Nat) (hN:N≤1000000):BkP N:=by
 induction N using Nat.strongRecOn with
 | _ N ih=>exact iblock_step N hN (fun M hM=>ih M hM (by omega))
end Go.Proofs.Ytagkbbcpbebapaa
