import Derived.Test.YtheanmadognhbaaGreatDoorIbt
namespace Go.Proofs.YtheanmadognhbaaGreatDoor
set_option linter.unusedVariables false
set_option linter.unusedSimpArgs false
open Go.RowKit Go.Maps
theorem EsAt.flat {w:World} {B:Nat→Prop} {g:Nat}:∀ (xs:List E) (i:Nat),EsAt w B g i xs→∃ css:List (List Value),css.length=xs.length∧(∀ (j:Nat) (x:E) (cs:List Value),xs[j]?=some x→css[j]?=some cs→EV w B x cs)∧∀ (j:Nat) (u:Value),css.flatten[j]?=some u→w.cell? ⟨g,i*5+j,none⟩=some u
 | [],i,_=>⟨[],rfl,by simp,by simp⟩
 | x :: xs,i,h=>by
  unfold EsAt at h;obtain ⟨⟨cs,h1,h2⟩,h3⟩:=h;obtain ⟨css,e1,e2,e3⟩:=EsAt.flat xs (i+1) h3;have hl:=h1.len;refine ⟨cs :: css,by simp [e1],fun j y cs' hy hc=>?_,fun j u hu=>?_⟩
  ·cases j with
   | zero=>
    simp at hy hc;subst hy hc;exact h1
   | succ j=>exact e2 j y cs' (by simpa using hy) (by simpa using hc)
  ·rw [List.flatten_cons] at hu;rcases Nat.lt_or_ge j 5 with hj | hj
   ·rw [List.getElem?_append_left (by omega)] at hu;rw [h2 j hj,hu]
   ·rw [List.getElem?_append_right (by omega)] at hu;have:=e3 _ u hu;rw [hl] at this;rw [show i*5+j=(i+1)*5+(j - 5) by omega];exact this
theorem SsAt.flat {w:World} {B:Nat→Prop} {g:Nat}:∀ (xs:List St) (i:Nat),SsAt w B g i xs→∃ css:List (List Value),css.length=xs.length∧(∀ (j:Nat) (x:St) (cs:List Value),xs[j]?=some x→css[j]?=some cs→SV w B x cs)∧∀ (j:Nat) (u:Value),css.flatten[j]?=some u→w.cell? ⟨g,i*7+j,none⟩=some u
 | [],i,_=>⟨[],rfl,by simp,by simp⟩
 | x :: xs,i,h=>by
  unfold SsAt at h;obtain ⟨⟨cs,h1,h2⟩,h3⟩:=h;obtain ⟨css,e1,e2,e3⟩:=SsAt.flat xs (i+1) h3;have hl:=h1.len;refine ⟨cs :: css,by simp [e1],fun j y cs' hy hc=>?_,fun j u hu=>?_⟩
  ·cases j with
   | zero=>
    simp at hy hc;subst hy hc;exact h1
   | succ j=>exact e2 j y cs' (by simpa using hy) (by simpa using hc)
  ·rw [List.flatten_cons] at hu;rcases Nat.lt_or_ge j 7 with hj | hj
   ·rw [List.getElem?_append_left (by omega)] at hu;rw [h2 j hj,hu]
   ·rw [List.getElem?_append_right (by omega)] at hu;have:=e3 _ u hu;rw [hl] at this;rw [show i*7+j=(i+1)*7+(j - 7) by omega];exact this
theorem all_css {α:Type} {xs:List α} {css:List (List Value)} {P:α→List Value→Prop} {Q:List Value→Prop} (hl:css.length=xs.length) (h:∀ (j:Nat) (x:α) (cs:List Value),xs[j]?=some x→css[j]?=some cs→P x cs) (hq:∀ x cs,P x cs→Q cs):∀ cs∈css,Q cs:=by
 intro cs hcs;obtain ⟨i,hi,rfl⟩:=List.mem_iff_getElem.1 hcs;exact hq _ _ (h i xs[i] css[i] (List.getElem?_eq_getElem (by omega)) (List.getElem?_eq_getElem hi))
section
variable {w:World} {ops:Array Oper} {rest:List Oper} {o:Oper} {a:Act} {Q:Exit→Act→World→Prop}
end
theorem EsAt.aside {w w':World} {B:Nat→Prop} {g:Nat} (ho:Only [g] w w') (hB:¬ B g):∀ (xs:List E) (i:Nat),(∀ c,i*5≤c→c < (i+xs.length)*5→w'.cell? ⟨g,c,none⟩=w.cell? ⟨g,c,none⟩)→EsAt w B g i xs→EsAt w' B g i xs
 | [],_,_,_=>EsAt.nil'
 | x :: xs,i,hc,h=>by
  rw [List.length_cons] at hc;unfold EsAt at h⊢;obtain ⟨⟨cs,h1,h2⟩,h3⟩:=h;refine ⟨⟨cs,EV.kept ho (by simpa using hB) (fun _ h=>h) x cs h1,fun j hj=>?_⟩,EsAt.aside ho hB xs (i+1) (fun c h4 h5=>hc c (by omega) (by omega)) h3⟩;rw [hc _ (by omega) (by omega)];exact h2 j hj
theorem EsAt.snoc {w:World} {B:Nat→Prop} {g:Nat} {x:E} {cs:List Value} (hx:EV w B x cs):∀ (xs:List E) (i:Nat),EsAt w B g i xs→(∀ j,j < 5→w.cell? ⟨g,(i+xs.length)*5+j,none⟩=cs[j]?)→EsAt w B g i (xs++[x])
 | [],i,_,hc=>EsAt.one hx (by simpa using hc) EsAt.nil'
 | y :: ys,i,h,hc=>by
  rw [List.length_cons] at hc;unfold EsAt at h;obtain ⟨h1,h3⟩:=h;rw [List.cons_append];unfold EsAt;exact ⟨h1,EsAt.snoc hx ys (i+1) h3 (fun j hj=>by rw [show i+1+ys.length=i+(ys.length+1) by omega];exact hc j hj)⟩
theorem SsAt.aside {w w':World} {B:Nat→Prop} {g:Nat} (ho:Only [g] w w') (hB:¬ B g):∀ (xs:List St) (i:Nat),(∀ c,i*7≤c→c < (i+xs.length)*7→w'.cell? ⟨g,c,none⟩=w.cell? ⟨g,c,none⟩)→SsAt w B g i xs→SsAt w' B g i xs
 | [],_,_,_=>by unfold SsAt;trivial
 | x :: xs,i,hc,h=>by
  rw [List.length_cons] at hc;unfold SsAt at h⊢;obtain ⟨⟨cs,h1,h2⟩,h3⟩:=h;refine ⟨⟨cs,SV.kept ho (by simpa using hB) (fun _ h=>h) x cs h1,fun j hj=>?_⟩,SsAt.aside ho hB xs (i+1) (fun c h4 h5=>hc c (by omega) (by omega)) h3⟩;rw [hc _ (by omega) (by omega)];exact h2 j hj
theorem SsAt.snoc {w:World} {B:Nat→Prop} {g:Nat} {x:St} {cs:List Value} (hx:SV w B x cs):∀ (xs:List St) (i:Nat),SsAt w B g i xs→(∀ j,j < 7→w.cell? ⟨g,(i+xs.length)*7+j,none⟩=cs[j]?)→SsAt w B g i (xs++[x])
 | [],i,_,hc=>by
  rw [List.nil_append];unfold SsAt;exact ⟨⟨cs,hx,by simpa using hc⟩,by unfold SsAt;trivial⟩
 | y :: ys,i,h,hc=>by
  rw [List.length_cons] at hc;unfold SsAt at h;obtain ⟨h1,h3⟩:=h;rw [List.cons_append];unfold SsAt;exact ⟨h1,SsAt.snoc hx ys (i+1) h3 (fun j hj=>by rw [show i+1+ys.length=i+(ys.length+1) by omega];exact hc j hj)⟩
theorem SsAt.app {w:World} {B:Nat→Prop} {g:Nat}:∀ (xs ys:List St) (i:Nat),SsAt w B g i xs→SsAt w B g (i+xs.length) ys→SsAt w B g i (xs++ys)
 | [],ys,i,_,h=>by simpa using h
 | x :: xs,ys,i,h,h2=>by
  rw [List.length_cons] at h2;unfold SsAt at h;rw [List.cons_append];unfold SsAt;exact ⟨h.1,SsAt.app xs ys (i+1) h.2 (by rw [show i+1+xs.length=i+(xs.length+1) by omega];exact h2)⟩
theorem EsAt.wide {w:World} {B B':Nat→Prop} {g:Nat} (hB:∀ k,B k→B' k):∀ (xs:List E) (i:Nat),EsAt w B g i xs→EsAt w B' g i xs
 | [],_,_=>EsAt.nil'
 | x :: xs,i,h=>by
  unfold EsAt at h⊢;obtain ⟨⟨cs,h1,h2⟩,h3⟩:=h;exact ⟨⟨cs,EV.kept (Only.refl [] w) (by simp) hB x cs h1,h2⟩,EsAt.wide hB xs (i+1) h3⟩
theorem SsAt.wide {w:World} {B B':Nat→Prop} {g:Nat} (hB:∀ k,B k→B' k):∀ (xs:List St) (i:Nat),SsAt w B g i xs→SsAt w B' g i xs
 | [],_,_=>by unfold SsAt;trivial
 | x :: xs,i,h=>by
  unfold SsAt at h⊢;obtain ⟨⟨cs,h1,h2⟩,h3⟩:=h;exact ⟨⟨cs,SV.kept (Only.refl [] w) (by simp) hB x cs h1,h2⟩,SsAt.wide hB xs (i+1) h3⟩
theorem xi {α:Type} {xs:List α} {j:Nat} {x:α} (h:xs[j]?=some x):xs.drop j=x :: xs.drop (j+1):=by
 obtain ⟨hlt,rfl⟩:=List.getElem?_eq_some_iff.1 h;exact List.drop_eq_getElem_cons hlt
theorem xj {α:Type} {xs:List α} {j:Nat} {x:α} (h:xs[j]?=some x):xs.take (j+1)=xs.take j++[x]:=by
 rw [List.take_add_one,h];rfl
theorem ri {α:Type} {xs:List α} {j:Nat} {x:α} (h:xs[j]?=some x):(xs.take j).length=j:=by
 have:=(List.getElem?_eq_some_iff.1 h).1;rw [List.length_take];omega
theorem gT {w w':World} {g:Nat} (ho:Only [] w w') (hg:g < w.heap.size) (c:Nat):w'.cell? ⟨g,c,none⟩=w.cell? ⟨g,c,none⟩:=
 World.cell?_of_block (a:=⟨g,c,none⟩) (ho.block g hg (by simp))
def LX (w wr:World) (a:Option Addr) (Bo:Nat→Prop) (xs:List E) (j:Nat):Prop:=
 Only [] w wr∧(xs=[]∨∃ g cur,a=some ⟨g,0,none⟩∧w.heap.size≤g∧wr.heap[g]?=some (.cells cur 72 (0,0))∧EsAt wr (fun b=>w.heap.size≤b∧b≠g) g 0 (xs.take j)∧EsAt wr Bo g j (xs.drop j))
theorem LX.next {w wr w5:World} {g:Nat} {Bo:Nat→Prop} {xs:List E} {j:Nat} (h:LX w wr (some ⟨g,0,none⟩) Bo xs j) {k nn p:Int} {nm:Sec} {ys:List E} (he:xs[j]?=some (.mk k nn nm ys p))
  (ho:Only [] wr w5) {v5:Value} (hv:EsV w5 (fun b=>wr.heap.size≤b) v5 ys) (hBo:∀ b,Bo b→b < w.heap.size):LX w (w5.setCell ⟨g,j*5+3,none⟩ v5) (some ⟨g,0,none⟩) Bo xs (j+1):=by
 obtain ⟨h0,h⟩:=h;rcases h with rfl | ⟨g',cur,e,hg,hb,h1,h2⟩
 ·simp at he
 ·cases e;have hgl:=am hb;have hb5:=ho.heap hb (by simp);have o6:Only [g] w5 (w5.setCell ⟨g,j*5+3,none⟩ v5):=oc;have o56:Only [g] wr (w5.setCell ⟨g,j*5+3,none⟩ v5):=(ho.mono (T:=[g]) (by simp)).trans o6 (fun k hk=>.inl hk);have hother:∀ c,c≠j*5+3→(w5.setCell ⟨g,j*5+3,none⟩ v5).cell? ⟨g,c,none⟩=wr.cell? ⟨g,c,none⟩:=fun c hc=>by
   rw [World.cell?_setCell_other _ _ _ _ (fun e=>hc (by injection e with _ e2;exact e2.symm)),gT ho hgl]
  rw [xi he] at h2;unfold EsAt at h2;obtain ⟨⟨cs,h3,h4⟩,h5⟩:=h2;unfold EV at h3;obtain ⟨a3,c3,rfl,-,-⟩:=h3;have hsame:(w5.setCell ⟨g,j*5+3,none⟩ v5).cell? ⟨g,j*5+3,none⟩=some v5:=World.cell?_setCell_same _ _ _ (u:=.slice a3 ys.length c3) (by rw [gT ho hgl];exact (h4 3 (by omega)).trans rfl);have hn:¬ Bo g:=fun e=>by have:=hBo g e;omega
  refine ⟨h0.trans (o56) (fun k hk=>.inr (by rw [List.mem_singleton.1 hk];exact hg)),.inr ⟨g,_,rfl,hg,af v5 hb5,?_,?_⟩⟩
  ·rw [xj he];refine EsAt.snoc (cs:=[.int .i64 k,.int .i64 nn,.string (ai nm),v5,.int .i64 p]) (EV.mk' (hv.kept o6 (by simpa using hgl) (fun b hb=>⟨by have:=h0.size;omega,by omega⟩))) _ _ (EsAt.aside o56 (fun e=>e.2 rfl) _ _ (fun c hc1 hc2=>hother c (by rw [ri he] at hc2;omega)) h1) (fun i hi=>?_);rw [ri he,Nat.zero_add]
   by_cases e3:i=3
   ·subst e3;rw [hsame];rfl
   ·rw [hother _ (by omega),h4 i hi]
    match i,hi,e3 with
    | 0,_,_=>rfl
    | 1,_,_=>rfl
    | 2,_,_=>rfl
    | 4,_,_=>rfl
  ·exact EsAt.aside o56 hn _ _ (fun c hc1 hc2=>hother c (by omega)) h5
theorem lJ (x:St):∀ l:List St,aG (l++[x])=aG l++(if x.kind=1 then [x] else [])
 | []=>by
  rw [List.nil_append];unfold aG aG
  by_cases h:x.kind=1
  ·simp [h]
  ·simp [h]
 | y :: ys=>by
  rw [List.cons_append];unfold aG;rw [lJ x ys]
  by_cases h:y.kind=1
  ·simp [h]
  ·simp [h]
theorem mF:∀ l:List St,(aG l).length+(tuO l).length=l.length
 | []=>by unfold aG tuO;rfl
 | y :: ys=>by
  have:=mF ys;unfold aG tuO
  by_cases h:y.kind=1
  ·simp [h];omega
  ·simp [h];omega
theorem tuB_nil:tuB []=[]:=by unfold tuB aG tuO;rfl
theorem qe (l:List St):(tuB l).length=l.length:=by unfold tuB;rw [List.length_append];exact mF l
structure SX (w wr:World) (a:Option Addr) (xs:List St) (j f b:Nat):Prop where
 only:Only [] w wr
 lf:(aG (xs.take j)).length=f
 lb:b+(tuO (xs.take j)).length=xs.length
 row:xs=[]∨∃ g cur,a=some ⟨g,0,none⟩∧w.heap.size≤g∧wr.heap[g]?=some (.cells cur 112 (0,0))∧xs.length*7≤cur.size∧
  SsAt wr (fun k=>w.heap.size≤k∧k≠g) g 0 (aG (xs.take j))∧SsAt wr (fun k=>w.heap.size≤k∧k≠g) g b (tuO (xs.take j))
theorem SX.quiet {w wr w':World} {a:Option Addr} {xs:List St} {j f b:Nat} (h:SX w wr a xs j f b) (ho:Only [] wr w'):SX w w' a xs j f b:=by
 obtain ⟨h1,h2,h3,h4⟩:=h;refine ⟨h1.trans ho (by simp),h2,h3,h4.imp id ?_⟩;rintro ⟨g,cur,e1,e2,e3,e4,e5,e6⟩;have hl:=am e3;exact ⟨g,cur,e1,e2,ho.heap e3 (by simp),e4,SsAt.aside (ho.mono (by simp)) (fun e=>e.2 rfl) _ _ (fun c _ _=>gT ho hl c) e5,SsAt.aside (ho.mono (by simp)) (fun e=>e.2 rfl) _ _ (fun c _ _=>gT ho hl c) e6⟩
section
variable {w wr:World} {g:Nat} {xs:List St} {j f b:Nat} {x:St} {v0 v1 v2 v3 v4 v5 v6:Value}
end
theorem SX.whole {w wr:World} {a:Option Addr} {xs:List St} {f b cap:Nat} (h:SX w wr a xs xs.length f b) (hc:xs.length≤cap):SsV wr (fun k=>w.heap.size≤k) (.slice a xs.length cap) (tuB xs):=by
 obtain ⟨h1,h2,h3,h4⟩:=h;rw [List.take_length] at h2 h3 h4;have:=mF xs;refine ⟨a,cap,by rw [qe],by rw [qe];exact hc,?_⟩;rcases h4 with rfl | ⟨g,cur,e1,e2,e3,e4,e5,e6⟩
 ·exact .inl tuB_nil
 ·refine .inr ⟨g,e1,e2,?_⟩;unfold tuB;exact SsAt.app _ _ 0 (SsAt.wide (fun _ h=>h.1) _ _ e5) (by rw [Nat.zero_add,h2,show f=b by omega];exact SsAt.wide (fun _ h=>h.1) _ _ e6)
end Go.Proofs.YtheanmadognhbaaGreatDoor
