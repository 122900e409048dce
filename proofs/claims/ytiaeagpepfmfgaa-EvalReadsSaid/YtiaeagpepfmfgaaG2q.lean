import Derived.Test.YtiaeagpepfmfgaaG1q
import Derived.Test.YtiaeagpepfmfgaaB2q
namespace Go.Proofs.Ytiaeagpepfmfgaa
open Go.RowKit Go.Maps
set_option linter.unusedSimpArgs false
set_option linter.unusedVariables false
mutual
def EV (w:World) (B:Nat→Prop):E→List Value→Prop
 | .mk k n s xs p,cs=>∃ (a:Option Addr) (cap:Nat),cs=[.int .i64 k,.int .i64 n,.string (strOf s),.slice a xs.length cap,.int .i64 p]∧xs.length≤cap∧(xs=[]∨∃ g,a=some ⟨g,0,none⟩∧B g∧EsAt w B g 0 xs)
def EsAt (w:World) (B:Nat→Prop) (g:Nat):Nat→List E→Prop
 | _,[]=>True
 | i,e :: es=>(∃ cs,EV w B e cs∧∀ j,j < 5→w.cell? ⟨g,i*5+j,none⟩=cs[j]?)∧EsAt w B g (i+1) es
end
def EsV (w:World) (B:Nat→Prop) (v:Value) (xs:List E):Prop:=
 ∃ (a:Option Addr) (cap:Nat),v=.slice a xs.length cap∧xs.length≤cap∧(xs=[]∨∃ g,a=some ⟨g,0,none⟩∧B g∧EsAt w B g 0 xs)
theorem EV.mk' {w:World} {B:Nat→Prop} {k n p:Int} {s:Sec} {xs:List E} {v:Value} (h:EsV w B v xs):EV w B (.mk k n s xs p) [.int .i64 k,.int .i64 n,.string (strOf s),v,.int .i64 p]:=by
 obtain ⟨a,cap,rfl,h1,h2⟩:=h
 unfold EV
 exact ⟨a,cap,rfl,h1,h2⟩
theorem EV.len {w:World} {B:Nat→Prop} {e:E} {cs:List Value} (h:EV w B e cs):cs.length=5:=by
 cases e
 unfold EV at h
 obtain ⟨a,cap,rfl,_⟩:=h
 rfl
mutual
theorem EV.kept {w w':World} {S:List Nat} {B B':Nat→Prop} (ho:Only S w w') (hs:∀ k∈S,¬ B k) (hB:∀ k,B k→B' k):∀ (e:E) (cs:List Value),EV w B e cs→EV w' B' e cs
 | .mk k n s xs p,cs,h=>by
  unfold EV at h⊢
  obtain ⟨a,cap,h1,h2,h3⟩:=h
  refine ⟨a,cap,h1,h2,h3.imp id ?_⟩
  rintro ⟨g,h4,h5,h6⟩
  exact ⟨g,h4,hB g h5,EsAt.kept ho hs hB h5 0 xs h6⟩
theorem EsAt.kept {w w':World} {S:List Nat} {B B':Nat→Prop} (ho:Only S w w') (hs:∀ k∈S,¬ B k) (hB:∀ k,B k→B' k) {g:Nat} (hg:B g):∀ (i:Nat) (es:List E),EsAt w B g i es→EsAt w' B' g i es
 | _,[],h=>by unfold EsAt;trivial
 | i,e :: es,h=>by
  unfold EsAt at h⊢
  obtain ⟨⟨cs,h1,h2⟩,h3⟩:=h
  refine ⟨⟨cs,EV.kept ho hs hB e cs h1,fun j hj=>?_⟩,EsAt.kept ho hs hB hg (i+1) es h3⟩
  have hc:=h2 j hj
  obtain ⟨u,hu⟩:∃ u,cs[j]?=some u:=⟨_,List.getElem?_eq_getElem (by rw [h1.len];exact hj)⟩
  rw [hu] at hc⊢
  exact cell_kept ho hc (fun hk=>hs _ hk hg)
end
theorem EsV.kept {w w':World} {S:List Nat} {B B':Nat→Prop} (ho:Only S w w') (hs:∀ k∈S,¬ B k) (hB:∀ k,B k→B' k) {v:Value} {xs:List E} (h:EsV w B v xs):EsV w' B' v xs:=by
 obtain ⟨a,cap,h1,h2,h3⟩:=h
 refine ⟨a,cap,h1,h2,h3.imp id ?_⟩
 rintro ⟨g,h4,h5,h6⟩
 exact ⟨g,h4,hB g h5,EsAt.kept ho hs hB h5 0 xs h6⟩
theorem EsAt.here {w:World} {B:Nat→Prop} {g i:Nat} {xs:List E} (hx:xs≠[]) (h:EsAt w B g i xs):g < w.heap.size:=by
 cases xs with
 | nil=>exact absurd rfl hx
 | cons e es=>
  unfold EsAt at h
  obtain ⟨⟨cs,h1,h2⟩,_⟩:=h
  have hc:=h2 0 (by omega)
  obtain ⟨u,hu⟩:∃ u,cs[0]?=some u:=⟨_,List.getElem?_eq_getElem (by rw [h1.len];omega)⟩
  rw [hu] at hc
  exact World.block_lt_of_cell? _ _ hc
mutual
theorem EV.lt {w:World} {B:Nat→Prop}:∀ (e:E) (cs:List Value),EV w B e cs→EV w (fun b=>B b∧b < w.heap.size) e cs
 | .mk k n s xs p,cs,h=>by
  unfold EV at h⊢
  obtain ⟨a,cap,h1,h2,h3⟩:=h
  refine ⟨a,cap,h1,h2,?_⟩
  by_cases hx:xs=[]
  ·exact .inl hx
  ·rcases h3 with h3 | ⟨g,h4,h5,h6⟩
   ·exact .inl h3
   ·exact .inr ⟨g,h4,⟨h5,EsAt.here hx h6⟩,EsAt.lt g 0 xs h6⟩
theorem EsAt.lt {w:World} {B:Nat→Prop} (g:Nat):∀ (i:Nat) (es:List E),EsAt w B g i es→EsAt w (fun b=>B b∧b < w.heap.size) g i es
 | _,[],h=>by unfold EsAt;trivial
 | i,e :: es,h=>by
  unfold EsAt at h⊢
  obtain ⟨⟨cs,h1,h2⟩,h3⟩:=h
  exact ⟨⟨cs,EV.lt e cs h1,h2⟩,EsAt.lt g (i+1) es h3⟩
end
section
variable {w w':World} {B B':Nat→Prop} {v:Value} {xs:List E} {e:E} {cs:List Value}
theorem EV.quiet (h:EV w B e cs) (ho:Only [] w w'):EV w' B e cs:=EV.kept ho (by simp) (fun _ h=>h) e cs h
theorem EsV.quiet (h:EsV w B v xs) (ho:Only [] w w'):EsV w' B v xs:=h.kept ho (by simp) (fun _ h=>h)
theorem EsV.nil (w:World) (B:Nat→Prop):EsV w B (.slice none 0 0) []:=⟨none,0,rfl,Nat.le_refl _,.inl rfl⟩
theorem EsAt.one {g i:Nat} (h:EV w B e cs) (hc:∀ j,j < 5→w.cell? ⟨g,i*5+j,none⟩=cs[j]?) {es:List E} (hr:EsAt w B g (i+1) es):EsAt w B g i (e :: es):=by
 unfold EsAt
 exact ⟨⟨cs,h,hc⟩,hr⟩
theorem EsAt.nil' {g i:Nat}:EsAt w B g i []:=by unfold EsAt;trivial
theorem EsV.made1 {cs:List Value} (h:EV w B e cs) (hB:B w.heap.size):EsV (w.alloc (.cells cs.toArray 70)) B (.slice (some ⟨w.heap.size,0,none⟩) 1 1) [e]:=by
 refine ⟨_,_,rfl,Nat.le_refl _,.inr ⟨w.heap.size,rfl,hB,EsAt.one (cs:=cs) (h.quiet ((Only.refl [] w).alloc _)) (fun j hj=>?_) EsAt.nil'⟩⟩
 rw [cell_at _ (heap_new w _)]
 simp
theorem EsV.made2 {e2:E} {cs cs2:List Value} (h:EV w B e cs) (h2:EV w B e2 cs2) (hB:B w.heap.size):EsV (w.alloc (.cells (cs++cs2).toArray 70)) B (.slice (some ⟨w.heap.size,0,none⟩) 2 2) [e,e2]:=by
 have l1:=h.len
 have l2:=h2.len
 refine ⟨_,_,rfl,Nat.le_refl _,.inr ⟨w.heap.size,rfl,hB,EsAt.one (cs:=cs) (h.quiet ((Only.refl [] w).alloc _)) (fun j hj=>?_) (EsAt.one (cs:=cs2) (h2.quiet ((Only.refl [] w).alloc _)) (fun j hj=>?_) EsAt.nil')⟩⟩
 ·rw [cell_at _ (heap_new w _)]
  simp
  rw [List.getElem?_append_left (by omega)]
 ·rw [cell_at _ (heap_new w _)]
  simp
  rw [List.getElem?_append_right (by omega)]
  congr 1
  omega
end
end Go.Proofs.Ytiaeagpepfmfgaa
