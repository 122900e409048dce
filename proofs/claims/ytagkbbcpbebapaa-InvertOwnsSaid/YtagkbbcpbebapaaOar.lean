import Derived.Test.YtagkbbcpbebapaaIar
namespace Go.Proofs.Ytagkbbcpbebapaa
open Go.RowKit Go.Maps
set_option linter.unusedSimpArgs false
set_option linter.unusedVariables false
def zE0:List Value:=[.int .i64 0,.int .i64 0,.string ⟨#[]⟩,.slice none 0 0,.int .i64 0]
def zS0:List Value:=[.int .i64 0,.string ⟨#[]⟩,.slice none 0 0,.int .i64 0,.slice none 0 0,.slice none 0 0,.int .i64 0]
mutual
def ZE (w:World) (B:Nat→Prop):E→List Value→Prop
 | .mk _ _ _ xs _,cs=>∃ (k n p:Int) (s:ByteArray) (a:Option Addr) (l c:Nat),cs=[.int .i64 k,.int .i64 n,.string s,.slice a l c,.int .i64 p]∧
   (l=0∨(l=xs.length∧∃ g cur,a=some ⟨g,0,none⟩∧B g∧w.heap[g]?=some (.cells cur 74 (0,0))∧ZEsAt w B g 0 xs))
def ZEsAt (w:World) (B:Nat→Prop) (g:Nat):Nat→List E→Prop
 | _,[]=>True
 | i,e :: es=>(∃ cs,ZE w B e cs∧∀ j,j < 5→w.cell? ⟨g,i*5+j,none⟩=cs[j]?)∧ZEsAt w B g (i+1) es
end
def ZEsV (w:World) (B:Nat→Prop) (v:Value) (xs:List E):Prop:=
 ∃ (a:Option Addr) (l c:Nat),v=.slice a l c∧(l=0∨(l=xs.length∧∃ g cur,a=some ⟨g,0,none⟩∧B g∧w.heap[g]?=some (.cells cur 74 (0,0))∧ZEsAt w B g 0 xs))
mutual
def ZS (w:World) (B:Nat→Prop):St→List Value→Prop
 | .mk _ _ xs _ bd els _,cs=>∃ (k n p:Int) (s:ByteArray) (v:Value) (a1 a2:Option Addr) (l1 l2 c1 c2:Nat),cs=[.int .i64 k,.string s,v,.int .i64 n,.slice a1 l1 c1,.slice a2 l2 c2,.int .i64 p]∧ZEsV w B v xs∧
   (l1=0∨(l1=bd.length∧∃ g cur,a1=some ⟨g,0,none⟩∧B g∧w.heap[g]?=some (.cells cur 61 (0,0))∧ZSsAt w B g 0 bd))∧
   (l2=0∨(l2=els.length∧∃ g cur,a2=some ⟨g,0,none⟩∧B g∧w.heap[g]?=some (.cells cur 61 (0,0))∧ZSsAt w B g 0 els))
def ZSsAt (w:World) (B:Nat→Prop) (g:Nat):Nat→List St→Prop
 | _,[]=>True
 | i,e :: es=>(∃ cs,ZS w B e cs∧∀ j,j < 7→w.cell? ⟨g,i*7+j,none⟩=cs[j]?)∧ZSsAt w B g (i+1) es
end
def ZSsV (w:World) (B:Nat→Prop) (v:Value) (xs:List St):Prop:=
 ∃ (a:Option Addr) (l c:Nat),v=.slice a l c∧(l=0∨(l=xs.length∧∃ g cur,a=some ⟨g,0,none⟩∧B g∧w.heap[g]?=some (.cells cur 61 (0,0))∧ZSsAt w B g 0 xs))
theorem ZE.mk' {w:World} {B:Nat→Prop} {k n p k' n' p':Int} {nm:Sec} {s:ByteArray} {xs:List E} {v:Value} (h:ZEsV w B v xs):ZE w B (.mk k n nm xs p) [.int .i64 k',.int .i64 n',.string s,v,.int .i64 p']:=by
 obtain ⟨a,l,c,rfl,h⟩:=h
 unfold ZE
 exact ⟨_,_,_,_,a,l,c,rfl,h⟩
theorem ZS.mk' {w:World} {B:Nat→Prop} {k n p k' n' p':Int} {nm:Sec} {s:ByteArray} {xs:List E} {bd els:List St} {v vb vc:Value} (h:ZEsV w B v xs) (h1:ZSsV w B vb bd) (h2:ZSsV w B vc els):ZS w B (.mk k nm xs n bd els p) [.int .i64 k',.string s,v,.int .i64 n',vb,vc,.int .i64 p']:=by
 obtain ⟨a1,l1,c1,rfl,h1⟩:=h1
 obtain ⟨a2,l2,c2,rfl,h2⟩:=h2
 unfold ZS
 exact ⟨_,_,_,_,v,a1,a2,l1,l2,c1,c2,rfl,h,h1,h2⟩
theorem ZE.zero (w:World) (B:Nat→Prop) (x:E):ZE w B x zE0:=by
 cases x
 unfold ZE
 exact ⟨_,_,_,_,none,0,0,rfl,.inl rfl⟩
theorem ZS.zero (w:World) (B:Nat→Prop) (x:St):ZS w B x zS0:=by
 cases x
 unfold ZS
 exact ⟨_,_,_,_,_,none,none,0,0,0,0,rfl,⟨none,0,0,rfl,.inl rfl⟩,.inl rfl,.inl rfl⟩
theorem ZE.len {w:World} {B:Nat→Prop} {x:E} {cs:List Value} (h:ZE w B x cs):cs.length=5:=by
 cases x
 unfold ZE at h
 obtain ⟨_,_,_,_,_,_,_,rfl,_⟩:=h
 rfl
theorem ZS.len {w:World} {B:Nat→Prop} {x:St} {cs:List Value} (h:ZS w B x cs):cs.length=7:=by
 cases x
 unfold ZS at h
 obtain ⟨_,_,_,_,_,_,_,_,_,_,_,rfl,_⟩:=h
 rfl
mutual
theorem ZE.kept {w w':World} {S:List Nat} {B B':Nat→Prop} (ho:Only S w w') (hs:∀ k∈S,¬ B k) (hB:∀ k,B k→B' k):∀ (x:E) (cs:List Value),ZE w B x cs→ZE w' B' x cs
 | .mk k n nm xs p,cs,h=>by
  unfold ZE at h⊢
  obtain ⟨k',n',p',s,a,l,c,e,h⟩:=h
  refine ⟨k',n',p',s,a,l,c,e,h.imp id ?_⟩
  rintro ⟨e1,g,cur,e2,e3,e4,e5⟩
  exact ⟨e1,g,cur,e2,hB g e3,ho.heap e4 (fun hk=>hs _ hk e3),ZEsAt.kept ho hs hB g e3 xs 0 e5⟩
theorem ZEsAt.kept {w w':World} {S:List Nat} {B B':Nat→Prop} (ho:Only S w w') (hs:∀ k∈S,¬ B k) (hB:∀ k,B k→B' k) (g:Nat) (hg:B g):∀ (xs:List E) (i:Nat),ZEsAt w B g i xs→ZEsAt w' B' g i xs
 | [],_,_=>by unfold ZEsAt;trivial
 | x :: xs,i,h=>by
  unfold ZEsAt at h⊢
  obtain ⟨⟨cs,h1,h2⟩,h3⟩:=h
  refine ⟨⟨cs,ZE.kept ho hs hB x cs h1,fun j hj=>?_⟩,ZEsAt.kept ho hs hB g hg xs (i+1) h3⟩
  have hc:=h2 j hj
  obtain ⟨u,hu⟩:∃ u,cs[j]?=some u:=⟨_,List.getElem?_eq_getElem (by rw [h1.len];exact hj)⟩
  rw [hu] at hc⊢
  exact cell_kept ho hc (fun hk=>hs _ hk hg)
end
theorem ZEsV.kept {w w':World} {S:List Nat} {B B':Nat→Prop} (ho:Only S w w') (hs:∀ k∈S,¬ B k) (hB:∀ k,B k→B' k) {v:Value} {xs:List E} (h:ZEsV w B v xs):ZEsV w' B' v xs:=by
 obtain ⟨a,l,c,e,h⟩:=h
 refine ⟨a,l,c,e,h.imp id ?_⟩
 rintro ⟨e1,g,cur,e2,e3,e4,e5⟩
 exact ⟨e1,g,cur,e2,hB g e3,ho.heap e4 (fun hk=>hs _ hk e3),ZEsAt.kept ho hs hB g e3 xs 0 e5⟩
mutual
theorem ZS.kept {w w':World} {S:List Nat} {B B':Nat→Prop} (ho:Only S w w') (hs:∀ k∈S,¬ B k) (hB:∀ k,B k→B' k):∀ (x:St) (cs:List Value),ZS w B x cs→ZS w' B' x cs
 | .mk k nm xs n bd els p,cs,h=>by
  unfold ZS at h⊢
  obtain ⟨k',n',p',s,v,a1,a2,l1,l2,c1,c2,e,h0,h1,h2⟩:=h
  refine ⟨k',n',p',s,v,a1,a2,l1,l2,c1,c2,e,ZEsV.kept ho hs hB h0,h1.imp id ?_,h2.imp id ?_⟩
  ·rintro ⟨e1,g,cur,e2,e3,e4,e5⟩
   exact ⟨e1,g,cur,e2,hB g e3,ho.heap e4 (fun hk=>hs _ hk e3),ZSsAt.kept ho hs hB g e3 bd 0 e5⟩
  ·rintro ⟨e1,g,cur,e2,e3,e4,e5⟩
   exact ⟨e1,g,cur,e2,hB g e3,ho.heap e4 (fun hk=>hs _ hk e3),ZSsAt.kept ho hs hB g e3 els 0 e5⟩
theorem ZSsAt.kept {w w':World} {S:List Nat} {B B':Nat→Prop} (ho:Only S w w') (hs:∀ k∈S,¬ B k) (hB:∀ k,B k→B' k) (g:Nat) (hg:B g):∀ (xs:List St) (i:Nat),ZSsAt w B g i xs→ZSsAt w' B' g i xs
 | [],_,_=>by unfold ZSsAt;trivial
 | x :: xs,i,h=>by
  unfold ZSsAt at h⊢
  obtain ⟨⟨cs,h1,h2⟩,h3⟩:=h
  refine ⟨⟨cs,ZS.kept ho hs hB x cs h1,fun j hj=>?_⟩,ZSsAt.kept ho hs hB g hg xs (i+1) h3⟩
  have hc:=h2 j hj
  obtain ⟨u,hu⟩:∃ u,cs[j]?=some u:=⟨_,List.getElem?_eq_getElem (by rw [h1.len];exact hj)⟩
  rw [hu] at hc⊢
  exact cell_kept ho hc (fun hk=>hs _ hk hg)
end
theorem ZSsV.kept {w w':World} {S:List Nat} {B B':Nat→Prop} (ho:Only S w w') (hs:∀ k∈S,¬ B k) (hB:∀ k,B k→B' k) {v:Value} {xs:List St} (h:ZSsV w B v xs):ZSsV w' B' v xs:=by
 obtain ⟨a,l,c,e,h⟩:=h
 refine ⟨a,l,c,e,h.imp id ?_⟩
 rintro ⟨e1,g,cur,e2,e3,e4,e5⟩
 exact ⟨e1,g,cur,e2,hB g e3,ho.heap e4 (fun hk=>hs _ hk e3),ZSsAt.kept ho hs hB g e3 xs 0 e5⟩
section
variable {w w':World} {B B':Nat→Prop} {g:Nat}
theorem ZEsAt.aside (ho:Only [g] w w') (hB:¬ B g):∀ (xs:List E) (i:Nat),(∀ c,i*5≤c→c < (i+xs.length)*5→w'.cell? ⟨g,c,none⟩=w.cell? ⟨g,c,none⟩)→ZEsAt w B g i xs→ZEsAt w' B g i xs
 | [],_,_,_=>by unfold ZEsAt;trivial
 | x :: xs,i,hc,h=>by
  rw [List.length_cons] at hc
  unfold ZEsAt at h⊢
  obtain ⟨⟨cs,h1,h2⟩,h3⟩:=h
  refine ⟨⟨cs,ZE.kept ho (by simpa using hB) (fun _ h=>h) x cs h1,fun j hj=>?_⟩,ZEsAt.aside ho hB xs (i+1) (fun c h4 h5=>hc c (by omega) (by omega)) h3⟩
  rw [hc _ (by omega) (by omega)]
  exact h2 j hj
theorem ZEsAt.snoc {x:E} {cs:List Value} (hx:ZE w B x cs):∀ (xs:List E) (i:Nat),ZEsAt w B g i xs→(∀ j,j < 5→w.cell? ⟨g,(i+xs.length)*5+j,none⟩=cs[j]?)→ZEsAt w B g i (xs++[x])
 | [],i,_,hc=>by
  rw [List.nil_append]
  unfold ZEsAt
  exact ⟨⟨cs,hx,by simpa using hc⟩,by unfold ZEsAt;trivial⟩
 | y :: ys,i,h,hc=>by
  rw [List.length_cons] at hc
  unfold ZEsAt at h
  obtain ⟨h1,h3⟩:=h
  rw [List.cons_append]
  unfold ZEsAt
  exact ⟨h1,ZEsAt.snoc hx ys (i+1) h3 (fun j hj=>by rw [show i+1+ys.length=i+(ys.length+1) by omega];exact hc j hj)⟩
theorem ZSsAt.aside (ho:Only [g] w w') (hB:¬ B g):∀ (xs:List St) (i:Nat),(∀ c,i*7≤c→c < (i+xs.length)*7→w'.cell? ⟨g,c,none⟩=w.cell? ⟨g,c,none⟩)→ZSsAt w B g i xs→ZSsAt w' B g i xs
 | [],_,_,_=>by unfold ZSsAt;trivial
 | x :: xs,i,hc,h=>by
  rw [List.length_cons] at hc
  unfold ZSsAt at h⊢
  obtain ⟨⟨cs,h1,h2⟩,h3⟩:=h
  refine ⟨⟨cs,ZS.kept ho (by simpa using hB) (fun _ h=>h) x cs h1,fun j hj=>?_⟩,ZSsAt.aside ho hB xs (i+1) (fun c h4 h5=>hc c (by omega) (by omega)) h3⟩
  rw [hc _ (by omega) (by omega)]
  exact h2 j hj
theorem ZSsAt.snoc {x:St} {cs:List Value} (hx:ZS w B x cs):∀ (xs:List St) (i:Nat),ZSsAt w B g i xs→(∀ j,j < 7→w.cell? ⟨g,(i+xs.length)*7+j,none⟩=cs[j]?)→ZSsAt w B g i (xs++[x])
 | [],i,_,hc=>by
  rw [List.nil_append]
  unfold ZSsAt
  exact ⟨⟨cs,hx,by simpa using hc⟩,by unfold ZSsAt;trivial⟩
 | y :: ys,i,h,hc=>by
  rw [List.length_cons] at hc
  unfold ZSsAt at h
  obtain ⟨h1,h3⟩:=h
  rw [List.cons_append]
  unfold ZSsAt
  exact ⟨h1,ZSsAt.snoc hx ys (i+1) h3 (fun j hj=>by rw [show i+1+ys.length=i+(ys.length+1) by omega];exact hc j hj)⟩
theorem ZSsAt.app:∀ (xs ys:List St) (i:Nat),ZSsAt w B g i xs→ZSsAt w B g (i+xs.length) ys→ZSsAt w B g i (xs++ys)
 | [],ys,i,_,h=>by simpa using h
 | x :: xs,ys,i,h,h2=>by
  rw [List.length_cons] at h2
  unfold ZSsAt at h
  rw [List.cons_append]
  unfold ZSsAt
  exact ⟨h.1,ZSsAt.app xs ys (i+1) h.2 (by rw [show i+1+xs.length=i+(xs.length+1) by omega];exact h2)⟩
theorem ZEsAt.wide (hB:∀ k,B k→B' k):∀ (xs:List E) (i:Nat),ZEsAt w B g i xs→ZEsAt w B' g i xs
 | [],_,_=>by unfold ZEsAt;trivial
 | x :: xs,i,h=>by
  unfold ZEsAt at h⊢
  obtain ⟨⟨cs,h1,h2⟩,h3⟩:=h
  exact ⟨⟨cs,ZE.kept (Only.refl [] w) (by simp) hB x cs h1,h2⟩,ZEsAt.wide hB xs (i+1) h3⟩
theorem ZSsAt.wide (hB:∀ k,B k→B' k):∀ (xs:List St) (i:Nat),ZSsAt w B g i xs→ZSsAt w B' g i xs
 | [],_,_=>by unfold ZSsAt;trivial
 | x :: xs,i,h=>by
  unfold ZSsAt at h⊢
  obtain ⟨⟨cs,h1,h2⟩,h3⟩:=h
  exact ⟨⟨cs,ZS.kept (Only.refl [] w) (by simp) hB x cs h1,h2⟩,ZSsAt.wide hB xs (i+1) h3⟩
end
end Go.Proofs.Ytagkbbcpbebapaa
namespace Go.Proofs.Ytagkbbcpbebapaa
open Go.RowKit Go.Maps
set_option linter.unusedSimpArgs false
set_option linter.unusedVariables false
def LXo (w wr:World) (a:Option Addr) (Bo:Nat→Prop) (xs:List E) (j:Nat):Prop:=LX w wr a Bo xs j∧(xs=[]∨∃ g,a=some ⟨g,0,none⟩∧ZEsAt wr (fun b=>w.heap.size≤b∧b≠g) g 0 (xs.take j))
theorem LXo.next {w wr w5:World} {g:Nat} {Bo:Nat→Prop} {xs:List E} {j:Nat} (h:LXo w wr (some ⟨g,0,none⟩) Bo xs j) {k nn p:Int} {nm:Sec} {ys:List E} (he:xs[j]?=some (.mk k nn nm ys p))
  (ho:Only [] wr w5) {v5:Value} (hv:EsV w5 (fun b=>wr.heap.size≤b) v5 ys) (hz:ZEsV w5 (fun b=>wr.heap.size≤b) v5 ys) (hBo:∀ b,Bo b→b < w.heap.size):LXo w (w5.setCell ⟨g,j*5+3,none⟩ v5) (some ⟨g,0,none⟩) Bo xs (j+1):=by
 refine ⟨h.1.next he ho hv hBo,?_⟩
 obtain ⟨⟨h0,h⟩,hq⟩:=h
 rcases h with rfl | ⟨g',cur,e,hg,hb,h1,h2⟩
 ·simp at he
 ·cases e
  have hq:ZEsAt wr (fun b=>w.heap.size≤b∧b≠g) g 0 (xs.take j):=by
   rcases hq with rfl | ⟨g',e,hq⟩
   ·simp at he
   ·cases e
    exact hq
  have hgl:=lt_of_heap hb
  have o6:Only [g] w5 (w5.setCell ⟨g,j*5+3,none⟩ v5):=(Only.refl _ _).setCell (.inl (by simp)) _
  have o56:Only [g] wr (w5.setCell ⟨g,j*5+3,none⟩ v5):=(ho.mono (T:=[g]) (by simp)).trans o6 (fun k hk=>.inl hk)
  have hother:∀ c,c≠j*5+3→(w5.setCell ⟨g,j*5+3,none⟩ v5).cell? ⟨g,c,none⟩=wr.cell? ⟨g,c,none⟩:=fun c hc=>by
   rw [World.cell?_setCell_other _ _ _ _ (fun e=>hc (by injection e with _ e2;exact e2.symm)),cell_same ho hgl]
  rw [drop_at he] at h2
  unfold EsAt at h2
  obtain ⟨⟨cs,h3,h4⟩,h5⟩:=h2
  unfold EV at h3
  obtain ⟨a3,c3,rfl,-,-⟩:=h3
  have hsame:(w5.setCell ⟨g,j*5+3,none⟩ v5).cell? ⟨g,j*5+3,none⟩=some v5:=World.cell?_setCell_same _ _ _ (u:=.slice a3 ys.length c3) (by rw [cell_same ho hgl];simpa using h4 3 (by omega))
  refine .inr ⟨g,rfl,?_⟩
  rw [take_at he]
  refine ZEsAt.snoc (cs:=[.int .i64 k,.int .i64 nn,.string (strOf nm),v5,.int .i64 p]) (ZE.mk' (hz.kept o6 (by simpa using hgl) (fun b hb=>⟨by have:=h0.size;omega,by omega⟩))) _ _ (ZEsAt.aside o56 (fun e=>e.2 rfl) _ _ (fun c hc1 hc2=>hother c (by rw [take_len he] at hc2;omega)) hq) (fun i hi=>?_)
  rw [take_len he,Nat.zero_add]
  by_cases e3:i=3
  ·subst e3
   rw [hsame]
   rfl
  ·rw [hother _ (by omega),h4 i hi]
   match i,hi,e3 with
   | 0,_,_=>rfl
   | 1,_,_=>rfl
   | 2,_,_=>rfl
   | 4,_,_=>rfl
def XPo (N:Nat):Prop:=∀ (xs:List E),sizeL xs≤N→∀ (w:World) (v:Value) (B:Nat→Prop),EsV w B v xs→
 Calls Try.prog 45 #[v] w fun en w'=>∃ a cap,en=.returned (.slice a xs.length cap)∧EsV w' (fun b=>w.heap.size≤b) (.slice a xs.length cap) xs∧ZEsV w' (fun b=>w.heap.size≤b) (.slice a xs.length cap) xs∧Only [] w w'
set_option maxRecDepth 100000 in
set_option maxHeartbeats 4000000 in
theorem oexprs_step (N:Nat) (hNN:N≤1000000) (IS:∀ M,M < N→XPo M):XPo N:=by
 intro xs hN w v B hv
 have hlen:=sizeL_len xs
 have KC:=cloneE_any v xs w B hv (by omega)
 obtain ⟨a,cap,rfl,-⟩:=id hv
 obtain ⟨n,hn⟩:∃ n,n=xs.length:=⟨_,rfl⟩
 rw [← hn] at hlen KC⊢
 have HN:=Hd hn
 have hnb:n≤1000000:=by omega
 clear hn hv
 go_enter Try.func45,Try.ntmps45
 go_wp2_with fail
 refine KC.mono ?_
 rintro en w1 ⟨v',rfl,hc,o1⟩
 obtain ⟨a',cap',hv',hcap',hx'⟩:=hc
 rw [← HN.out] at hv' hcap'
 subst hv'
 have HC:=Hd hcap'
 have HX:=Hd (show LXo w w1 a' (fun b=>B b∧b < w.heap.size) xs 0 from ⟨⟨o1,hx'.imp id (fun ⟨g,cur,h1,h2,h3,h4⟩=>⟨g,cur,h1,h2,h3,EsAt.nil',h4⟩)⟩,hx'.imp id (fun ⟨g,cur,h1,h2,h3,h4⟩=>⟨g,h1,by rw [List.take_zero];unfold ZEsAt;trivial⟩)⟩)
 clear KC hcap' hx' o1
 go_wp2_with fail
 go_loopw [9] (fun ix wr=>∃ (j:Nat),j≤n∧ix=.int .i64 (j:Int)∧Hid (LXo w wr a' (fun b=>B b∧b < w.heap.size) xs j)) (fun ix _=>n - (intOf ix).toNat)
 case atStart=>exact ⟨0,Nat.zero_le _,rfl,HX⟩
 case round=>
  clear HX
  obtain ⟨j,hjn,rfl,HX⟩:=hrel
  by_cases hlt:j < n
  ·have hlt':(j:Int) < (n:Int):=by omega
   have j0:(0:Int)≤(j:Int):=by omega
   obtain ⟨e,he⟩:∃ e,xs[j]?=some e:=⟨_,List.getElem?_eq_getElem (by rw [← HN.out];exact hlt)⟩
   obtain ⟨k,nn,nm,ys,p⟩:=e
   obtain ⟨g,a3,c3,rfl,hg,x3,f3,hv3⟩:=HX.out.1.opened he
   have hsz:=sizeL_mem he
   have KI:=IS (sizeL ys) (by rw [sizeE_mk] at hsz;omega) ys (Nat.le_refl _) wr _ _ hv3
   have HE:=Hd he
   have hgl:=World.block_lt_of_cell? _ _ x3
   obtain ⟨L,hL⟩:∃ L,L=ys.length:=⟨_,rfl⟩
   rw [← hL] at x3 KI
   clear he hv3 hsz hL hg
   go_wp2_with fail
   refine KI.mono ?_
   rintro en w5 ⟨a5,c5,rfl,hv5,hz5,o5⟩
   have HX5:=Hd (HX.out.next HE.out o5 hv5 hz5 (fun b hb=>hb.2))
   have x3':=cell_kept o5 x3 (by simp)
   have f3':w5.frozen? ⟨g,j*5+3,none⟩=false:=by
    rw [World.frozen?_of_block (w:=wr) (a:=⟨g,j*5+3,none⟩) (o5.block g hgl (by simp))]
    exact f3
   clear KI x3 f3 hv5 hz5 o5 HX
   go_wp2_with fail
   refine ⟨⟨j+1,by omega,rfl,HX5⟩,?_⟩
   simp [intOf]
   omega
  ·obtain rfl:j=n:=by omega
   go_wp2_with fail
   go_ret
   refine ⟨a',cap',rfl,?_,?_,HX.out.1.1⟩
   ·obtain ⟨⟨-,hx⟩,-⟩:=HX.out
    refine ⟨a',cap',by rw [HN.out],by rw [← HN.out];exact HC.out,hx.imp id ?_⟩
    rintro ⟨g,cur,h1,h2,h3,h4,-⟩
    rw [HN.out,List.take_length] at h4
    exact ⟨g,h1,h2,EsAt.wide (fun _ h=>h.1) xs 0 h4⟩
   ·obtain ⟨⟨-,hx⟩,hz⟩:=HX.out
    rcases hx with hx | ⟨g,cur,rfl,h2,h3,-⟩
    ·exact ⟨a',_,cap',rfl,.inl (by rw [HN.out,hx];rfl)⟩
    ·rcases hz with hz | ⟨g',e,h4⟩
     ·exact ⟨_,_,cap',rfl,.inl (by rw [HN.out,hz];rfl)⟩
     ·cases e
      rw [HN.out,List.take_length] at h4
      exact ⟨_,_,cap',rfl,.inr ⟨HN.out,g,cur,rfl,h2,h3,ZEsAt.wide (fun _ h=>h.1) xs 0 h4⟩⟩
theorem oexprs_all (N:Nat) (hN:N≤1000000):XPo N:=by
 induction N using Nat.strongRecOn with
 | _ N ih=>exact oexprs_step N hN (fun M hM=>ih M hM (by omega))
end Go.Proofs.Ytagkbbcpbebapaa
namespace Go.Proofs.Ytagkbbcpbebapaa
open Go.RowKit Go.Maps
set_option linter.unusedSimpArgs false
set_option linter.unusedVariables false
structure SXo (w wr:World) (a:Option Addr) (xs:List St) (j f b:Nat):Prop where
 sx:SX w wr a xs j f b
 z:xs=[]∨∃ g,a=some ⟨g,0,none⟩∧ZSsAt wr (fun k=>w.heap.size≤k∧k≠g) g 0 (letsB (xs.take j))∧ZSsAt wr (fun k=>w.heap.size≤k∧k≠g) g b (tuO (xs.take j))
theorem SXo.begin {w w1:World} {a:Option Addr} {xs:List St} {B:Nat→Prop} {cap:Nat} (ho:Only [] w w1) (h:CSt w1 w.heap.size (.slice a xs.length cap) B xs):SXo w w1 a xs 0 0 xs.length:=by
 refine ⟨SX.begin ho h,?_⟩
 obtain ⟨a',cap',e,_,hx⟩:=h
 cases e
 refine hx.imp id ?_
 rintro ⟨g,cur,h1,h2,h3,h4,-⟩
 exact ⟨g,h1,by rw [List.take_zero];unfold letsB ZSsAt;trivial,by rw [List.take_zero];unfold tuO ZSsAt;trivial⟩
theorem SXo.quiet {w wr w':World} {a:Option Addr} {xs:List St} {j f b:Nat} (h:SXo w wr a xs j f b) (ho:Only [] wr w'):SXo w w' a xs j f b:=by
 refine ⟨h.sx.quiet ho,?_⟩
 rcases h.z with hz | ⟨g,e1,e5,e6⟩
 ·exact .inl hz
 ·rcases h.sx.row with hz | ⟨g',cur,e2,-,e3,-⟩
  ·exact .inl hz
  ·rw [e1] at e2
   cases e2
   have hl:=lt_of_heap e3
   exact .inr ⟨g,e1,ZSsAt.aside (ho.mono (by simp)) (fun e=>e.2 rfl) _ _ (fun c _ _=>cell_same ho hl c) e5,ZSsAt.aside (ho.mono (by simp)) (fun e=>e.2 rfl) _ _ (fun c _ _=>cell_same ho hl c) e6⟩
section
variable {w wr:World} {g:Nat} {xs:List St} {j f b:Nat} {x:St} {v0 v1 v2 v3 v4 v5 v6:Value}
theorem SXo.at {a:Option Addr} {i:Nat} (h:SXo w wr a xs j f b) (hx:xs[i]?=some x):∃ g cur,a=some ⟨g,0,none⟩∧w.heap.size≤g∧wr.heap[g]?=some (.cells cur 61 (0,0))∧xs.length*7≤cur.size∧
  ZSsAt wr (fun k=>w.heap.size≤k∧k≠g) g 0 (letsB (xs.take j))∧ZSsAt wr (fun k=>w.heap.size≤k∧k≠g) g b (tuO (xs.take j)):=by
 rcases h.z with rfl | ⟨g,e1,e5,e6⟩
 ·simp at hx
 ·rcases h.sx.row with rfl | ⟨g',cur,e2,e3,e4,e7,-⟩
  ·simp at hx
  ·rw [e1] at e2
   cases e2
   exact ⟨g,cur,e1,e3,e4,e7,e5,e6⟩
theorem SXo.putLet (h:SXo w wr (some ⟨g,0,none⟩) xs j f b) (hx:xs[j]?=some x) (hk:x.kind=1) (hv:SV wr (fun k=>w.heap.size≤k∧k≠g) x [v0,v1,v2,v3,v4,v5,v6]) (hz:ZS wr (fun k=>w.heap.size≤k∧k≠g) x [v0,v1,v2,v3,v4,v5,v6]) :
  SXo w (put7 wr g f v0 v1 v2 v3 v4 v5 v6) (some ⟨g,0,none⟩) xs (j+1) (f+1) b:=by
 refine ⟨h.sx.putLet hx hk hv,?_⟩
 have hbt:=h.sx.between (List.getElem?_eq_some_iff.1 hx).1
 have h2:=h.sx.lf
 obtain ⟨g',cur,e,e2,e3,e4,e5,e6⟩:=h.at hx
 cases e
 obtain ⟨cur',p1,p2,p3,p4,p5⟩:=put7_row (i:=f) e3 (by omega) v0 v1 v2 v3 v4 v5 v6
 have hn:¬ (w.heap.size≤g∧g≠g):=fun e=>e.2 rfl
 have t1:=letsB_snoc x (xs.take j)
 have t2:=tuO_snoc x (xs.take j)
 rw [if_pos hk] at t1 t2
 rw [List.nil_append] at t2
 refine .inr ⟨g,rfl,?_,?_⟩
 ·rw [take_at hx,t1]
  exact ZSsAt.snoc (ZS.kept p5 (by simp) (fun _ h=>h) _ _ hz) _ _ (ZSsAt.aside p5 hn _ _ (fun c c1 c2=>p3 c (.inl (by omega))) e5) (fun i hi=>by rw [Nat.zero_add,h2];exact p4 i hi)
 ·rw [take_at hx,t2]
  exact ZSsAt.aside p5 hn _ _ (fun c c1 c2=>p3 c (.inr (by omega))) e6
theorem SXo.putOther (h:SXo w wr (some ⟨g,0,none⟩) xs j f (b+1)) (hx:xs[j]?=some x) (hk:x.kind≠1) (hv:SV wr (fun k=>w.heap.size≤k∧k≠g) (tuS x) [v0,v1,v2,v3,v4,v5,v6]) (hz:ZS wr (fun k=>w.heap.size≤k∧k≠g) (tuS x) [v0,v1,v2,v3,v4,v5,v6]) :
  SXo w (put7 wr g b v0 v1 v2 v3 v4 v5 v6) (some ⟨g,0,none⟩) xs (j+1) f b:=by
 refine ⟨h.sx.putOther hx hk hv,?_⟩
 have hbt:=h.sx.between (List.getElem?_eq_some_iff.1 hx).1
 have h2:=h.sx.lf
 obtain ⟨g',cur,e,e2,e3,e4,e5,e6⟩:=h.at hx
 cases e
 obtain ⟨cur',p1,p2,p3,p4,p5⟩:=put7_row (i:=b) e3 (by omega) v0 v1 v2 v3 v4 v5 v6
 have hn:¬ (w.heap.size≤g∧g≠g):=fun e=>e.2 rfl
 have t1:=letsB_snoc x (xs.take j)
 have t2:=tuO_snoc x (xs.take j)
 rw [if_neg hk] at t1 t2
 rw [List.append_nil] at t1
 refine .inr ⟨g,rfl,?_,?_⟩
 ·rw [take_at hx,t1]
  exact ZSsAt.aside p5 hn _ _ (fun c c1 c2=>p3 c (.inl (by omega))) e5
 ·rw [take_at hx,t2]
  show ZSsAt _ _ g b (tuS x :: tuO (xs.take j))
  unfold ZSsAt
  exact ⟨⟨_,ZS.kept p5 (by simp) (fun _ h=>h) _ _ hz,p4⟩,ZSsAt.aside p5 hn _ _ (fun c c1 c2=>p3 c (.inr (by omega))) e6⟩
end
theorem SXo.whole {w wr:World} {a:Option Addr} {xs:List St} {f b cap:Nat} (h:SXo w wr a xs xs.length f b):ZSsV wr (fun k=>w.heap.size≤k) (.slice a xs.length cap) (tuB xs):=by
 have h2:=h.sx.lf
 have h3:=h.sx.lb
 have hz:=h.z
 rw [List.take_length] at h2 h3 hz
 have:=lets_len xs
 rcases hz with hz | ⟨g,e1,e5,e6⟩
 ·exact ⟨a,_,cap,rfl,.inl (by rw [hz];rfl)⟩
 ·rcases h.sx.row with hz | ⟨g',cur,e2,e3,e4,-⟩
  ·exact ⟨a,_,cap,rfl,.inl (by rw [hz];rfl)⟩
  ·rw [e1] at e2
   cases e2
   refine ⟨a,_,cap,rfl,.inr ⟨by rw [tuB_len],g,cur,e1,e3,e4,?_⟩⟩
   unfold tuB
   exact ZSsAt.app _ _ 0 (ZSsAt.wide (fun _ h=>h.1) _ _ e5) (by rw [Nat.zero_add,h2,show f=b by omega];exact ZSsAt.wide (fun _ h=>h.1) _ _ e6)
def BkO (N:Nat):Prop:=∀ (xs:List St),sizeSs xs≤N→wB xs→pB xs→∀ (w:World) (v:Value) (B:Nat→Prop),SsV w B v xs→
 Calls Try.prog 24 #[v] w fun en w'=>∃ a cap,en=.returned (.slice a xs.length cap)∧SsV w' (fun b=>w.heap.size≤b) (.slice a xs.length cap) (tuB xs)∧ZSsV w' (fun b=>w.heap.size≤b) (.slice a xs.length cap) (tuB xs)∧Only [] w w'
set_option maxRecDepth 100000 in
set_option maxHeartbeats 8000000 in
theorem oblock_step (N:Nat) (hNN:N≤1000000) (IS:∀ M,M < N→BkO M):BkO N:=by
 intro xs hN hwb hpb w v B hv
 have hlen:=sizeSs_len xs
 have KC:=cloneS_any v xs w B hv (by omega)
 obtain ⟨a,cap,rfl,-⟩:=id hv
 obtain ⟨n,hn⟩:∃ n,n=xs.length:=⟨_,rfl⟩
 rw [← hn] at hlen KC hv⊢
 have HV:=Hd hv
 have HN:=Hd hn
 have HWB:=Hd hwb
 have HPB:=Hd hpb
 have hnb:n≤1000000:=by omega
 clear hn hv hwb hpb
 go_enter Try.func24,Try.ntmps24
 go_wp2_with fail
 go_step3
 go_wp2_with fail
 refine KC.mono ?_
 rintro en w1 ⟨v',rfl,hc,o1⟩
 obtain ⟨a',cap',hv',hcap',-⟩:=id hc
 subst hv'
 have HSX:=Hd (SXo.begin o1 hc)
 rw [← HN.out] at HSX hcap'⊢
 have HC:=Hd hcap'
 clear KC hcap' o1 hc
 go_wp2_with fail
 go_step3
 go_wp2_with fail
 go_loopg [4,5,14] n (fun gk s4 s5 ix wr=>∃ (j f b:Nat),j≤n∧j+gk=n∧ix=.int .i64 (j:Int)∧s4=.int .i64 (f:Int)∧s5=.int .i64 (b:Int)∧Hid (SXo w wr a' xs j f b))
 case atStart=>exact ⟨0,0,n,Nat.zero_le _,by omega,rfl,rfl,rfl,HSX⟩
 case round=>
  clear HSX
  obtain ⟨j,f,b,hjn,hjg,rfl,rfl,rfl,HSX⟩:=hrel
  by_cases hlt:j < n
  ·have hlt':(j:Int) < (n:Int):=by omega
   have j0:(0:Int)≤(j:Int):=by omega
   obtain ⟨-,gr,k,nm,ys,nn,bd,els,p,a0,c0,a1,c1,a2,c2,rfl,he,x0,x1,x2,x3,x4,x5,x6,hv0,hv1,hv2⟩:=(HV.out.quiet HSX.out.sx.only).elem hlt
   have hT1:=sizeSs_mem he
   rw [sizeS_mk] at hT1
   have hws:=wB_mem HWB.out he
   have hps:=pB_mem HPB.out he
   unfold wS at hws
   unfold pS at hps
   obtain ⟨hik,-,-,hwbd,hwels⟩:=hws
   obtain ⟨hpe,hpb,hpbd,hpels⟩:=hps
   have hbt:=HSX.out.sx.between (by rw [← HN.out];exact hlt)
   rw [← HN.out] at hbt
   obtain ⟨hfb,hbn,-⟩:=hbt
   have KE:=fun W hV=>oexprs_all 1000000 (Nat.le_refl _) ys (by omega) W (.slice a0 ys.length c0) B hV
   have KB1:=fun W hV=>IS (sizeSs bd) (by omega) bd (Nat.le_refl _) hwbd hpbd W (.slice a1 bd.length c1) B hV
   have KB2:=fun W hV=>IS (sizeSs els) (by omega) els (Nat.le_refl _) hwels hpels W (.slice a2 els.length c2) B hV
   obtain ⟨L0,hL0⟩:∃ L,L=ys.length:=⟨_,rfl⟩
   obtain ⟨L1,hL1⟩:∃ L,L=bd.length:=⟨_,rfl⟩
   obtain ⟨L2,hL2⟩:∃ L,L=els.length:=⟨_,rfl⟩
   obtain ⟨sn,hsn⟩:∃ sn,sn=strOf nm:=⟨_,rfl⟩
   rw [← hL0] at x2 hv0 KE hik
   rw [← hL1] at x4 hv1 KB1
   rw [← hL2] at x5 hv2 KB2
   rw [← hsn] at x1
   have HE:=Hd he
   have HS:=Hd hsn
   have HV0:=Hd hv0
   have HV1:=Hd hv1
   have HV2:=Hd hv2
   have HKE:=Hd KE
   have HKB1:=Hd KB1
   have HKB2:=Hd KB2
   have HL1:=Hd (And.intro hL1 hL2)
   have HPE:=Hd (And.intro hpe hpb)
   clear he hL0 hL1 hL2 hsn hv0 hv1 hv2 hT1 hlen hN KE KB1 KB2 hwbd hwels hpbd hpels hpe hpb
   go_upto_region 6 with (fail)
   have oA:=(Only.refl [] wr).alloc (.cells #[.int .i64 k,.string sn,.slice a0 L0 c0,.int .i64 nn,.slice a1 L1 c1,.slice a2 L2 c2,.int .i64 p] 61)
   have hb:=heap_new wr (.cells #[.int .i64 k,.string sn,.slice a0 L0 c0,.int .i64 nn,.slice a1 L1 c1,.slice a2 L2 c2,.int .i64 p] 61)
   obtain ⟨gb,hgb⟩:∃ gb,gb=wr.heap.size:=⟨_,rfl⟩
   rw [← hgb] at hb⊢
   generalize wr.alloc (.cells #[.int .i64 k,.string sn,.slice a0 L0 c0,.int .i64 nn,.slice a1 L1 c1,.slice a2 L2 c2,.int .i64 p] 61)=w2 at oA hb⊢
   have oD:Only [] w2 w2.drew:=(Only.refl [] w2).drew
   have hbd:=oD.heap hb (by simp)
   have hgs:=lt_of_heap hb
   have oAD:=oA.trans oD (by simp)
   replace HV0:=Hd (HV0.out.quiet oAD)
   replace HV1:=Hd (HV1.out.quiet oAD)
   replace HV2:=Hd (HV2.out.quiet oAD)
   have HGL:=Hd (show wr.heap.size≤gb by omega)
   refine wp_region_C (S:=fun w'=>w'.cell? ⟨gb,2,none⟩=some (.slice a0 L0 c0)∧w'.cell? ⟨gb,4,none⟩=some (.slice a1 L1 c1)∧w'.cell? ⟨gb,5,none⟩=some (.slice a2 L2 c2)) [0,1,2,3,4,5,6,7,8,9,11,13] (by kernel_rfl) ⟨cell_at 2 hbd,cell_at 4 hbd,cell_at 5 hbd⟩ (fun hH=>?_)
   have HO3:=Hd oAD
   have HB3:=Hd hbd
   have HG3:=Hd (show gb < w2.drew.heap.size from lt_of_heap hbd)
   clear oA oD oAD hb hgb hgs hbd x0 x1 x2 x3 x4 x5 x6
   generalize w2.drew=w3 at HV0 HV1 HV2 HO3 HB3 HG3 hH⊢
   refine takeP_list (i:=0) (v:=?_) rfl (by kernel_rfl) (by kernel_rfl) (by kernel_rfl) (fun _ _ _ h=>h) (Or.inl ⟨by rfl,?_⟩) ?_
   rotate_left
   ·((intro w hSw;(try dsimp only at hSw);go_simp);try with_reducible rfl)
   simp only [Act.put,List.setIfInBounds_toArray,List.set_cons_zero,List.set_cons_succ]
   refine takeC_list (i:=1) (v:=?_) rfl (by kernel_rfl) (by kernel_rfl) (by kernel_rfl) (by kernel_rfl) (fun _ _ _ h=>h) (Or.inl ⟨by rfl,?_⟩) hH ?_
   rotate_left
   ·((intro w hSw;(try dsimp only at hSw);go_simp);try with_reducible rfl)
   simp only [Act.put,List.setIfInBounds_toArray,List.set_cons_zero,List.set_cons_succ]
   refine takeP_list (i:=3) (v:=?_) rfl (by kernel_rfl) (by kernel_rfl) (by kernel_rfl) (fun _ _ _ h=>h) (Or.inl ⟨by rfl,?_⟩) ?_
   rotate_left
   ·((intro w hSw;(try dsimp only at hSw);go_simp);try with_reducible rfl)
   simp only [Act.put,List.setIfInBounds_toArray,List.set_cons_zero,List.set_cons_succ]
   refine takeC_list (i:=4) (v:=?_) rfl (by kernel_rfl) (by kernel_rfl) (by kernel_rfl) (by kernel_rfl) (fun _ _ _ h=>h) (Or.inl ⟨by rfl,?_⟩) hH ?_
   rotate_left
   ·((intro w hSw;(try dsimp only at hSw);go_simp);try with_reducible rfl)
   simp only [Act.put,List.setIfInBounds_toArray,List.set_cons_zero,List.set_cons_succ]
   refine takeP_list (i:=6) (v:=?_) rfl (by kernel_rfl) (by kernel_rfl) (by kernel_rfl) (fun _ _ _ h=>h) (Or.inl ⟨by rfl,?_⟩) ?_
   rotate_left
   ·((intro w hSw;(try dsimp only at hSw);go_simp);try with_reducible rfl)
   simp only [Act.put,List.setIfInBounds_toArray,List.set_cons_zero,List.set_cons_succ]
   refine takeC_list (i:=7) (v:=?_) rfl (by kernel_rfl) (by kernel_rfl) (by kernel_rfl) (by kernel_rfl) (fun _ _ _ h=>h) (Or.inl ⟨by rfl,?_⟩) hH ?_
   rotate_left
   ·((intro w hSw;(try dsimp only at hSw);go_simp);try with_reducible rfl)
   simp only [Act.put,List.setIfInBounds_toArray,List.set_cons_zero,List.set_cons_succ]
   refine readyC_in (i:=2) (by kernel_rfl) rfl (fun K hK=>?_)
   go_simp
   refine (HKE.out w3 HV0.out).mono ?_
   rintro en w4 ⟨a5,c5,rfl,hr0,hq0,o4⟩
   have HB4:=Hd (o4.heap HB3.out (by simp))
   refine hK.out _ _ ⟨cell_at 2 HB4.out,cell_at 4 HB4.out,cell_at 5 HB4.out⟩ (fun hH=>?_)
   clear hK K HKE
   have HR0:=Hd (hr0.kept (B':=fun k=>w3.heap.size≤k) (Only.refl [] w4) (by simp) (fun _ h=>h))
   have HQ0:=Hd (hq0.kept (B':=fun k=>w3.heap.size≤k) (Only.refl [] w4) (by simp) (fun _ h=>h))
   have HO4:=Hd (HO3.out.trans o4 (by simp))
   have HZ4:=Hd o4.size
   replace HV1:=Hd (HV1.out.quiet o4)
   replace HV2:=Hd (HV2.out.quiet o4)
   clear hr0 hq0 o4 HB3 HO3 HV0
   refine takeP_list (i:=9) (v:=?_) rfl (by kernel_rfl) (by kernel_rfl) (by kernel_rfl) (fun _ _ _ h=>h) (Or.inl ⟨by rfl,?_⟩) ?_
   rotate_left
   ·((intro w hSw;(try dsimp only at hSw);go_simp);try with_reducible rfl)
   simp only [Act.put,List.setIfInBounds_toArray,List.set_cons_zero,List.set_cons_succ]
   refine readyC_in (i:=5) (by kernel_rfl) rfl (fun K hK=>?_)
   go_simp
   refine (HKB1.out w4 HV1.out).mono ?_
   rintro en w5 ⟨a6,c6,rfl,hr1,hq1,o5⟩
   have HB5:=Hd (o5.heap HB4.out (by simp))
   refine hK.out _ _ ⟨cell_at 2 HB5.out,cell_at 4 HB5.out,cell_at 5 HB5.out⟩ (fun hH=>?_)
   clear hK K HKB1
   have HR1:=Hd (hr1.kept (B':=fun k=>w3.heap.size≤k) (Only.refl [] w5) (by simp) (fun _ h=>Nat.le_trans HZ4.out h))
   have HQ1:=Hd (hq1.kept (B':=fun k=>w3.heap.size≤k) (Only.refl [] w5) (by simp) (fun _ h=>Nat.le_trans HZ4.out h))
   replace HR0:=Hd (HR0.out.quiet o5)
   replace HQ0:=Hd (ZEsV.kept o5 (by simp) (fun _ h=>h) HQ0.out)
   have HO5:=Hd (HO4.out.trans o5 (by simp))
   have HZ5:=Hd (Nat.le_trans HZ4.out o5.size)
   replace HV2:=Hd (HV2.out.quiet o5)
   clear hr1 hq1 o5 HB4 HO4 HV1 HZ4
   refine readyC_in (i:=8) (by kernel_rfl) rfl (fun K hK=>?_)
   go_simp
   refine (HKB2.out w5 HV2.out).mono ?_
   rintro en w6 ⟨a7,c7,rfl,hr2,hq2,o6⟩
   have HB6:=Hd (o6.heap HB5.out (by simp))
   refine hK.out _ _ ⟨cell_at 2 HB6.out,cell_at 4 HB6.out,cell_at 5 HB6.out⟩ (fun hH=>?_)
   clear hK K HKB2
   have HR2:=Hd (hr2.kept (B':=fun k=>w3.heap.size≤k) (Only.refl [] w6) (by simp) (fun _ h=>Nat.le_trans HZ5.out h))
   have HQ2:=Hd (hq2.kept (B':=fun k=>w3.heap.size≤k) (Only.refl [] w6) (by simp) (fun _ h=>Nat.le_trans HZ5.out h))
   replace HR0:=Hd (HR0.out.quiet o6)
   replace HR1:=Hd (HR1.out.quiet o6)
   replace HQ0:=Hd (ZEsV.kept o6 (by simp) (fun _ h=>h) HQ0.out)
   replace HQ1:=Hd (ZSsV.kept o6 (by simp) (fun _ h=>h) HQ1.out)
   have HO6:=Hd (HO5.out.trans o6 (by simp))
   clear hr2 hq2 o6 HB5 HO5 HV2 HZ5 hH
   have q2:w6.cell? ⟨gb,2,none⟩=some (.slice a0 L0 c0):=cell_at 2 HB6.out
   have f2:=free_at 2 HB6.out
   refine readyC_out (i:=10) (by kernel_rfl) (by kernel_rfl) rfl (fun K hK=>?_)
   go_simp
   refine hK.out _ _ ?_
   clear hK K q2 f2
   have oz:Only [gb] w6 (w6.setCell ⟨gb,2,none⟩ (.slice a5 L0 c5)):=(Only.refl _ _).setCell (.inl (by simp)) _
   have hb7:(w6.setCell ⟨gb,2,none⟩ (.slice a5 L0 c5)).heap[gb]?=some (.cells #[.int .i64 k,.string sn,.slice a5 L0 c5,.int .i64 nn,.slice a1 L1 c1,.slice a2 L2 c2,.int .i64 p] 61 (0,0)):=heap_cell (i:=2) _ HB6.out
   have HOZ:=Hd oz
   have HB7:=Hd hb7
   clear oz hb7 HB6
   generalize w6.setCell ⟨gb,2,none⟩ (.slice a5 L0 c5)=w7 at HOZ HB7⊢
   refine takeP_list (i:=11) (v:=?_) rfl (by kernel_rfl) (by kernel_rfl) (by kernel_rfl) (fun _ _ _ h=>h) (Or.inl ⟨by rfl,?_⟩) ?_
   rotate_left
   ·((intro w hSw;(try dsimp only at hSw);go_simp);try with_reducible rfl)
   simp only [Act.put,List.setIfInBounds_toArray,List.set_cons_zero,List.set_cons_succ]
   have q2:w7.cell? ⟨gb,4,none⟩=some (.slice a1 L1 c1):=cell_at 4 HB7.out
   have f2:=free_at 4 HB7.out
   refine readyC_out (i:=12) (by kernel_rfl) (by kernel_rfl) rfl (fun K hK=>?_)
   go_simp
   refine hK.out _ _ ?_
   clear hK K q2 f2
   have oz:Only [gb] w7 (w7.setCell ⟨gb,4,none⟩ (.slice a6 L1 c6)):=(Only.refl _ _).setCell (.inl (by simp)) _
   have hb7:(w7.setCell ⟨gb,4,none⟩ (.slice a6 L1 c6)).heap[gb]?=some (.cells #[.int .i64 k,.string sn,.slice a5 L0 c5,.int .i64 nn,.slice a6 L1 c6,.slice a2 L2 c2,.int .i64 p] 61 (0,0)):=heap_cell (i:=4) _ HB7.out
   replace HOZ:=Hd (HOZ.out.trans oz (fun k hk=>.inl hk))
   have HB8:=Hd hb7
   clear oz hb7 HB7
   generalize w7.setCell ⟨gb,4,none⟩ (.slice a6 L1 c6)=w8 at HOZ HB8⊢
   refine takeP_list (i:=13) (v:=?_) rfl (by kernel_rfl) (by kernel_rfl) (by kernel_rfl) (fun _ _ _ h=>h) (Or.inl ⟨by rfl,?_⟩) ?_
   rotate_left
   ·((intro w hSw;(try dsimp only at hSw);go_simp);try with_reducible rfl)
   simp only [Act.put,List.setIfInBounds_toArray,List.set_cons_zero,List.set_cons_succ]
   have q2:w8.cell? ⟨gb,5,none⟩=some (.slice a2 L2 c2):=cell_at 5 HB8.out
   have f2:=free_at 5 HB8.out
   refine readyC_out (i:=14) (by kernel_rfl) (by kernel_rfl) rfl (fun K hK=>?_)
   go_simp
   refine hK.out _ _ ?_
   clear hK K q2 f2
   have oz:Only [gb] w8 (w8.setCell ⟨gb,5,none⟩ (.slice a7 L2 c7)):=(Only.refl _ _).setCell (.inl (by simp)) _
   have hb7:(w8.setCell ⟨gb,5,none⟩ (.slice a7 L2 c7)).heap[gb]?=some (.cells #[.int .i64 k,.string sn,.slice a5 L0 c5,.int .i64 nn,.slice a6 L1 c6,.slice a7 L2 c7,.int .i64 p] 61 (0,0)):=heap_cell (i:=5) _ HB8.out
   replace HOZ:=Hd (HOZ.out.trans oz (fun k hk=>.inl hk))
   have HB9:=Hd hb7
   clear oz hb7 HB8
   generalize w8.setCell ⟨gb,5,none⟩ (.slice a7 L2 c7)=w9 at HOZ HB9⊢
   refine wpAnyC_done (by kernel_rfl) ?_ _
   have HO9:=Hd (HO6.out.trans HOZ.out (fun k hk=>.inr (by rw [List.mem_singleton.1 hk];exact HGL.out)))
   have hns:∀ k∈[gb],¬ (w3.heap.size≤k):=by
    intro k hk
    rw [List.mem_singleton.1 hk]
    have:=HG3.out
    omega
   replace HR0:=Hd (HR0.out.kept HOZ.out hns (fun _ h=>h))
   replace HQ0:=Hd (ZEsV.kept HOZ.out hns (fun _ h=>h) HQ0.out)
   replace HR1:=Hd (HR1.out.kept HOZ.out hns (fun _ h=>h))
   replace HQ1:=Hd (ZSsV.kept HOZ.out hns (fun _ h=>h) HQ1.out)
   replace HR2:=Hd (HR2.out.kept HOZ.out hns (fun _ h=>h))
   replace HQ2:=Hd (ZSsV.kept HOZ.out hns (fun _ h=>h) HQ2.out)
   have HX9:=Hd (HSX.out.quiet HO9.out)
   obtain ⟨g,-,-,-,-,-,-,-,rfl,hg1,hg2,-⟩:=HSX.out.sx.place (i:=f) (by rw [← HN.out];omega)
   have hgs:=HG3.out
   have hgl:=HGL.out
   have HP0:=Hd (HR0.out.kept (B':=fun q=>w.heap.size≤q∧q≠g∧q≠gb) (Only.refl [] w9) (by simp) (fun q hq=>⟨by omega,by omega,by omega⟩))
   have HY0:=Hd (ZEsV.kept (B':=fun q=>w.heap.size≤q∧q≠g∧q≠gb) (Only.refl [] w9) (by simp) (fun q hq=>⟨by omega,by omega,by omega⟩) HQ0.out)
   have HP1:=Hd (HR1.out.kept (B':=fun q=>w.heap.size≤q∧q≠g∧q≠gb) (Only.refl [] w9) (by simp) (fun q hq=>⟨by omega,by omega,by omega⟩))
   have HY1:=Hd (ZSsV.kept (B':=fun q=>w.heap.size≤q∧q≠g∧q≠gb) (Only.refl [] w9) (by simp) (fun q hq=>⟨by omega,by omega,by omega⟩) HQ1.out)
   have HP2:=Hd (HR2.out.kept (B':=fun q=>w.heap.size≤q∧q≠g∧q≠gb) (Only.refl [] w9) (by simp) (fun q hq=>⟨by omega,by omega,by omega⟩))
   have HY2:=Hd (ZSsV.kept (B':=fun q=>w.heap.size≤q∧q≠g∧q≠gb) (Only.refl [] w9) (by simp) (fun q hq=>⟨by omega,by omega,by omega⟩) HQ2.out)
   have hgn:g≠gb:=by omega
   have HWR:=Hd (Nat.le_trans hg1 (Nat.le_of_lt (Nat.lt_of_lt_of_le hg2 hgl)))
   clear hns HOZ HO6 HG3 HR0 HR1 HR2 HQ0 HQ1 HQ2 hgs hgl hg1 hg2
   have hk8:k=1∨k=2∨k=3∨k=4∨k=5∨k=6∨k=7∨k=8:=by rcases hik with ⟨h,_⟩ | ⟨h,_⟩ | ⟨h,_⟩<;>omega
   clear hik
   have y0:w9.cell? ⟨gb,0,none⟩=some (.int .i64 k):=cell_at 0 HB9.out
   have y1:w9.cell? ⟨gb,1,none⟩=some (.string sn):=cell_at 1 HB9.out
   have y2:w9.cell? ⟨gb,2,none⟩=some (.slice a5 L0 c5):=cell_at 2 HB9.out
   have y3:w9.cell? ⟨gb,3,none⟩=some (.int .i64 nn):=cell_at 3 HB9.out
   have y4:w9.cell? ⟨gb,4,none⟩=some (.slice a6 L1 c6):=cell_at 4 HB9.out
   have y5:w9.cell? ⟨gb,5,none⟩=some (.slice a7 L2 c7):=cell_at 5 HB9.out
   have y6:w9.cell? ⟨gb,6,none⟩=some (.int .i64 p):=cell_at 6 HB9.out
   have f0:(0:Int)≤(f:Int):=by omega
   by_cases h1:k=1
   ·subst h1
    have fl:(f:Int) < (n:Int):=by omega
    have HSV:Hid (SV w9 (fun q=>w.heap.size≤q∧q≠g) (.mk 1 nm ys nn bd els p) [.int .i64 1,.string sn,.slice a5 L0 c5,.int .i64 nn,.slice a6 L1 c6,.slice a7 L2 c7,.int .i64 p]):=Hd (by
     have e1:=HPE.out.2 (by omega)
     have e2:=HPE.out.1 (by omega)
     have h1:=HP1.out
     have h2:=HP2.out
     rw [e1,tuB_nil] at h1
     rw [e2,tuB_nil] at h2
     rw [HS.out,e1,e2]
     exact SV.mk' (HP0.out.kept (Only.refl [] w9) (by simp) (fun q hq=>⟨hq.1,hq.2.1⟩)) (h1.kept (Only.refl [] w9) (by simp) (fun q hq=>⟨hq.1,hq.2.1⟩)) (h2.kept (Only.refl [] w9) (by simp) (fun q hq=>⟨hq.1,hq.2.1⟩)))
    have HZS:Hid (ZS w9 (fun q=>w.heap.size≤q∧q≠g) (.mk 1 nm ys nn bd els p) [.int .i64 1,.string sn,.slice a5 L0 c5,.int .i64 nn,.slice a6 L1 c6,.slice a7 L2 c7,.int .i64 p]):=Hd (by
     have e1:=HPE.out.2 (by omega)
     have e2:=HPE.out.1 (by omega)
     have h1:=HY1.out
     have h2:=HY2.out
     rw [e1,tuB_nil] at h1
     rw [e2,tuB_nil] at h2
     rw [e1,e2]
     exact ZS.mk' (ZEsV.kept (Only.refl [] w9) (by simp) (fun q hq=>⟨hq.1,hq.2.1⟩) HY0.out) (ZSsV.kept (Only.refl [] w9) (by simp) (fun q hq=>⟨hq.1,hq.2.1⟩) h1) (ZSsV.kept (Only.refl [] w9) (by simp) (fun q hq=>⟨hq.1,hq.2.1⟩) h2))
    obtain ⟨g',u0,u1,u2,u3,u4,u5,u6,hge,-,-,z0,z1,z2,z3,z4,z5,z6,fz⟩:=HX9.out.sx.place (i:=f) (by rw [← HN.out];omega)
    cases hge
    have HPL:=Hd (HX9.out.putLet HE.out rfl HSV.out HZS.out)
    clear hk8 hlt' hfb hbn HSV HZS HX9 HY0 HY1 HY2 HP0 HP1 HP2 HPE HS HL1 HSX HO9 HGL
    go_wp2_with fail
    go_roundg (n - (j+1))
    case measure=>omega
    case rel=>exact ⟨j+1,f+1,b,by omega,by omega,by go_num,by go_num,rfl,HPL⟩
   ·obtain ⟨b',rfl⟩:∃ b',b=b'+1:=⟨b - 1,by omega⟩
    have bl:(b':Int) < (n:Int):=by omega
    have b0:(0:Int)≤(b':Int):=by omega
    have k1:(k == 1)=false:=by simpa using h1
    have HSV:Hid (∀ W,Only [gb] w9 W→SV W (fun q=>w.heap.size≤q∧q≠g) (tuS (.mk k nm ys nn bd els p)) [.int .i64 (flipK k),.string sn,.slice a5 L0 c5,.int .i64 nn,.slice a6 L1 c6,.slice a7 L2 c7,.int .i64 p]):=Hd (fun W hW=>by
     rw [HS.out,tu_mk]
     have hn:∀ q∈[gb],¬ (w.heap.size≤q∧q≠g∧q≠gb):=fun q hq e=>e.2.2 (List.mem_singleton.1 hq)
     exact SV.mk' (HP0.out.kept hW hn (fun q hq=>⟨hq.1,hq.2.1⟩)) (HP1.out.kept hW hn (fun q hq=>⟨hq.1,hq.2.1⟩)) (HP2.out.kept hW hn (fun q hq=>⟨hq.1,hq.2.1⟩)))
    have HZS:Hid (∀ W,Only [gb] w9 W→ZS W (fun q=>w.heap.size≤q∧q≠g) (tuS (.mk k nm ys nn bd els p)) [.int .i64 (flipK k),.string sn,.slice a5 L0 c5,.int .i64 nn,.slice a6 L1 c6,.slice a7 L2 c7,.int .i64 p]):=Hd (fun W hW=>by
     rw [tu_mk]
     have hn:∀ q∈[gb],¬ (w.heap.size≤q∧q≠g∧q≠gb):=fun q hq e=>e.2.2 (List.mem_singleton.1 hq)
     exact ZS.mk' (ZEsV.kept hW hn (fun q hq=>⟨hq.1,hq.2.1⟩) HY0.out) (ZSsV.kept hW hn (fun q hq=>⟨hq.1,hq.2.1⟩) HY1.out) (ZSsV.kept hW hn (fun q hq=>⟨hq.1,hq.2.1⟩) HY2.out))
    clear HP0 HP1 HP2 HPE HS HL1 HY0 HY1 HY2
    rcases hk8 with rfl | rfl | rfl | rfl | rfl | rfl | rfl | rfl
    ·exact absurd rfl h1
    ·skip
     have HOW:=Hd (Only.refl [gb] w9)
     obtain ⟨g',u0,u1,u2,u3,u4,u5,u6,hge,-,-,z0,z1,z2,z3,z4,z5,z6,fz⟩:=HX9.out.sx.place (i:=b') (by rw [← HN.out];omega)
     cases hge
     have HPL:=Hd (HX9.out.putOther HE.out h1 (HSV.out _ HOW.out) (HZS.out _ HOW.out))
     clear hlt' hfb hbn HSV HZS HX9 h1 HSX HO9 HGL
     go_wp2_with fail
     go_roundg (n - (j+1))
     case measure=>omega
     case rel=>exact ⟨j+1,f,b',by omega,by omega,by go_num,rfl,by go_num,HPL⟩
    ·skip
     have f9:=free_at 0 HB9.out
     go_upto_region 19 with (fail)
     have HOW:=Hd (show Only [gb] w9 (w9.setCell ⟨gb,0,none⟩ (.int .i64 4)) from (Only.refl _ _).setCell (.inl (by simp)) _)
     have hb7:(w9.setCell ⟨gb,0,none⟩ (.int .i64 4)).heap[gb]?=some (.cells #[.int .i64 4,.string sn,.slice a5 L0 c5,.int .i64 nn,.slice a6 L1 c6,.slice a7 L2 c7,.int .i64 p] 61 (0,0)):=heap_cell (i:=0) _ HB9.out
     have HX10:=Hd (HSX.out.quiet (HO9.out.trans HOW.out (fun q hq=>.inr (by rw [List.mem_singleton.1 hq];exact HGL.out))))
     generalize w9.setCell ⟨gb,0,none⟩ (.int .i64 4)=w10 at HOW hb7 HX10⊢
     clear y0 y1 y2 y3 y4 y5 y6 f9
     have y0:w10.cell? ⟨gb,0,none⟩=some (.int .i64 4):=cell_at 0 hb7
     have y1:w10.cell? ⟨gb,1,none⟩=some (.string sn):=cell_at 1 hb7
     have y2:w10.cell? ⟨gb,2,none⟩=some (.slice a5 L0 c5):=cell_at 2 hb7
     have y3:w10.cell? ⟨gb,3,none⟩=some (.int .i64 nn):=cell_at 3 hb7
     have y4:w10.cell? ⟨gb,4,none⟩=some (.slice a6 L1 c6):=cell_at 4 hb7
     have y5:w10.cell? ⟨gb,5,none⟩=some (.slice a7 L2 c7):=cell_at 5 hb7
     have y6:w10.cell? ⟨gb,6,none⟩=some (.int .i64 p):=cell_at 6 hb7
     clear hb7
     obtain ⟨g',u0,u1,u2,u3,u4,u5,u6,hge,-,-,z0,z1,z2,z3,z4,z5,z6,fz⟩:=HX10.out.sx.place (i:=b') (by rw [← HN.out];omega)
     cases hge
     have HPL:=Hd (HX10.out.putOther HE.out h1 (HSV.out _ HOW.out) (HZS.out _ HOW.out))
     clear hlt' hfb hbn HSV HZS HX10 h1 HSX HO9 HGL
     go_wp2_with fail
     go_roundg (n - (j+1))
     case measure=>omega
     case rel=>exact ⟨j+1,f,b',by omega,by omega,by go_num,rfl,by go_num,HPL⟩
    ·skip
     have f9:=free_at 0 HB9.out
     go_upto_region 19 with (fail)
     have HOW:=Hd (show Only [gb] w9 (w9.setCell ⟨gb,0,none⟩ (.int .i64 3)) from (Only.refl _ _).setCell (.inl (by simp)) _)
     have hb7:(w9.setCell ⟨gb,0,none⟩ (.int .i64 3)).heap[gb]?=some (.cells #[.int .i64 3,.string sn,.slice a5 L0 c5,.int .i64 nn,.slice a6 L1 c6,.slice a7 L2 c7,.int .i64 p] 61 (0,0)):=heap_cell (i:=0) _ HB9.out
     have HX10:=Hd (HSX.out.quiet (HO9.out.trans HOW.out (fun q hq=>.inr (by rw [List.mem_singleton.1 hq];exact HGL.out))))
     generalize w9.setCell ⟨gb,0,none⟩ (.int .i64 3)=w10 at HOW hb7 HX10⊢
     clear y0 y1 y2 y3 y4 y5 y6 f9
     have y0:w10.cell? ⟨gb,0,none⟩=some (.int .i64 3):=cell_at 0 hb7
     have y1:w10.cell? ⟨gb,1,none⟩=some (.string sn):=cell_at 1 hb7
     have y2:w10.cell? ⟨gb,2,none⟩=some (.slice a5 L0 c5):=cell_at 2 hb7
     have y3:w10.cell? ⟨gb,3,none⟩=some (.int .i64 nn):=cell_at 3 hb7
     have y4:w10.cell? ⟨gb,4,none⟩=some (.slice a6 L1 c6):=cell_at 4 hb7
     have y5:w10.cell? ⟨gb,5,none⟩=some (.slice a7 L2 c7):=cell_at 5 hb7
     have y6:w10.cell? ⟨gb,6,none⟩=some (.int .i64 p):=cell_at 6 hb7
     clear hb7
     obtain ⟨g',u0,u1,u2,u3,u4,u5,u6,hge,-,-,z0,z1,z2,z3,z4,z5,z6,fz⟩:=HX10.out.sx.place (i:=b') (by rw [← HN.out];omega)
     cases hge
     have HPL:=Hd (HX10.out.putOther HE.out h1 (HSV.out _ HOW.out) (HZS.out _ HOW.out))
     clear hlt' hfb hbn HSV HZS HX10 h1 HSX HO9 HGL
     go_wp2_with fail
     go_roundg (n - (j+1))
     case measure=>omega
     case rel=>exact ⟨j+1,f,b',by omega,by omega,by go_num,rfl,by go_num,HPL⟩
    ·skip
     have HOW:=Hd (Only.refl [gb] w9)
     obtain ⟨g',u0,u1,u2,u3,u4,u5,u6,hge,-,-,z0,z1,z2,z3,z4,z5,z6,fz⟩:=HX9.out.sx.place (i:=b') (by rw [← HN.out];omega)
     cases hge
     have HPL:=Hd (HX9.out.putOther HE.out h1 (HSV.out _ HOW.out) (HZS.out _ HOW.out))
     clear hlt' hfb hbn HSV HZS HX9 h1 HSX HO9 HGL
     go_wp2_with fail
     go_roundg (n - (j+1))
     case measure=>omega
     case rel=>exact ⟨j+1,f,b',by omega,by omega,by go_num,rfl,by go_num,HPL⟩
    ·skip
     have HOW:=Hd (Only.refl [gb] w9)
     obtain ⟨g',u0,u1,u2,u3,u4,u5,u6,hge,-,-,z0,z1,z2,z3,z4,z5,z6,fz⟩:=HX9.out.sx.place (i:=b') (by rw [← HN.out];omega)
     cases hge
     have HPL:=Hd (HX9.out.putOther HE.out h1 (HSV.out _ HOW.out) (HZS.out _ HOW.out))
     clear hlt' hfb hbn HSV HZS HX9 h1 HSX HO9 HGL
     go_wp2_with fail
     go_roundg (n - (j+1))
     case measure=>omega
     case rel=>exact ⟨j+1,f,b',by omega,by omega,by go_num,rfl,by go_num,HPL⟩
    ·skip
     have f9:=free_at 0 HB9.out
     go_upto_region 19 with (fail)
     have HOW:=Hd (show Only [gb] w9 (w9.setCell ⟨gb,0,none⟩ (.int .i64 8)) from (Only.refl _ _).setCell (.inl (by simp)) _)
     have hb7:(w9.setCell ⟨gb,0,none⟩ (.int .i64 8)).heap[gb]?=some (.cells #[.int .i64 8,.string sn,.slice a5 L0 c5,.int .i64 nn,.slice a6 L1 c6,.slice a7 L2 c7,.int .i64 p] 61 (0,0)):=heap_cell (i:=0) _ HB9.out
     have HX10:=Hd (HSX.out.quiet (HO9.out.trans HOW.out (fun q hq=>.inr (by rw [List.mem_singleton.1 hq];exact HGL.out))))
     generalize w9.setCell ⟨gb,0,none⟩ (.int .i64 8)=w10 at HOW hb7 HX10⊢
     clear y0 y1 y2 y3 y4 y5 y6 f9
     have y0:w10.cell? ⟨gb,0,none⟩=some (.int .i64 8):=cell_at 0 hb7
     have y1:w10.cell? ⟨gb,1,none⟩=some (.string sn):=cell_at 1 hb7
     have y2:w10.cell? ⟨gb,2,none⟩=some (.slice a5 L0 c5):=cell_at 2 hb7
     have y3:w10.cell? ⟨gb,3,none⟩=some (.int .i64 nn):=cell_at 3 hb7
     have y4:w10.cell? ⟨gb,4,none⟩=some (.slice a6 L1 c6):=cell_at 4 hb7
     have y5:w10.cell? ⟨gb,5,none⟩=some (.slice a7 L2 c7):=cell_at 5 hb7
     have y6:w10.cell? ⟨gb,6,none⟩=some (.int .i64 p):=cell_at 6 hb7
     clear hb7
     obtain ⟨g',u0,u1,u2,u3,u4,u5,u6,hge,-,-,z0,z1,z2,z3,z4,z5,z6,fz⟩:=HX10.out.sx.place (i:=b') (by rw [← HN.out];omega)
     cases hge
     have HPL:=Hd (HX10.out.putOther HE.out h1 (HSV.out _ HOW.out) (HZS.out _ HOW.out))
     clear hlt' hfb hbn HSV HZS HX10 h1 HSX HO9 HGL
     go_wp2_with fail
     go_roundg (n - (j+1))
     case measure=>omega
     case rel=>exact ⟨j+1,f,b',by omega,by omega,by go_num,rfl,by go_num,HPL⟩
    ·skip
     have f9:=free_at 0 HB9.out
     go_upto_region 19 with (fail)
     have HOW:=Hd (show Only [gb] w9 (w9.setCell ⟨gb,0,none⟩ (.int .i64 7)) from (Only.refl _ _).setCell (.inl (by simp)) _)
     have hb7:(w9.setCell ⟨gb,0,none⟩ (.int .i64 7)).heap[gb]?=some (.cells #[.int .i64 7,.string sn,.slice a5 L0 c5,.int .i64 nn,.slice a6 L1 c6,.slice a7 L2 c7,.int .i64 p] 61 (0,0)):=heap_cell (i:=0) _ HB9.out
     have HX10:=Hd (HSX.out.quiet (HO9.out.trans HOW.out (fun q hq=>.inr (by rw [List.mem_singleton.1 hq];exact HGL.out))))
     generalize w9.setCell ⟨gb,0,none⟩ (.int .i64 7)=w10 at HOW hb7 HX10⊢
     clear y0 y1 y2 y3 y4 y5 y6 f9
     have y0:w10.cell? ⟨gb,0,none⟩=some (.int .i64 7):=cell_at 0 hb7
     have y1:w10.cell? ⟨gb,1,none⟩=some (.string sn):=cell_at 1 hb7
     have y2:w10.cell? ⟨gb,2,none⟩=some (.slice a5 L0 c5):=cell_at 2 hb7
     have y3:w10.cell? ⟨gb,3,none⟩=some (.int .i64 nn):=cell_at 3 hb7
     have y4:w10.cell? ⟨gb,4,none⟩=some (.slice a6 L1 c6):=cell_at 4 hb7
     have y5:w10.cell? ⟨gb,5,none⟩=some (.slice a7 L2 c7):=cell_at 5 hb7
     have y6:w10.cell? ⟨gb,6,none⟩=some (.int .i64 p):=cell_at 6 hb7
     clear hb7
     obtain ⟨g',u0,u1,u2,u3,u4,u5,u6,hge,-,-,z0,z1,z2,z3,z4,z5,z6,fz⟩:=HX10.out.sx.place (i:=b') (by rw [← HN.out];omega)
     cases hge
     have HPL:=Hd (HX10.out.putOther HE.out h1 (HSV.out _ HOW.out) (HZS.out _ HOW.out))
     clear hlt' hfb hbn HSV HZS HX10 h1 HSX HO9 HGL
     go_wp2_with fail
     go_roundg (n - (j+1))
     case measure=>omega
     case rel=>exact ⟨j+1,f,b',by omega,by omega,by go_num,rfl,by go_num,HPL⟩
  ·obtain rfl:j=n:=by omega
   go_wp2_with fail
   rw [Exit.noGoto_ret]
   go_ret
   have h1:=HSX.out
   rw [HN.out] at h1
   exact ⟨a',cap',rfl,by rw [HN.out];exact h1.sx.whole (by rw [← HN.out];exact HC.out),by rw [HN.out];exact h1.whole,HSX.out.sx.only⟩
theorem oblock_all (N:Nat) (hN:N≤1000000):BkO N:=by
 induction N using Nat.strongRecOn with
 | _ N ih=>exact oblock_step N hN (fun M hM=>ih M hM (by omega))
end Go.Proofs.Ytagkbbcpbebapaa
