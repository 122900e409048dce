import Derived.Test.YtiaeagpepfmfgaaG9q
namespace Go.Proofs.Ytiaeagpepfmfgaa
open Go.RowKit Go.Maps
set_option linter.unusedSimpArgs false
set_option linter.unusedVariables false
mutual
def SV (w:World) (B:Nat→Prop):St→List Value→Prop
 | .mk k nm xs n bd els p,cs=>∃ (va:Value) (a1:Option Addr) (c1:Nat) (a2:Option Addr) (c2:Nat),cs=[.int .i64 k,.string (strOf nm),va,.int .i64 n,.slice a1 bd.length c1,.slice a2 els.length c2,.int .i64 p]∧EsV w B va xs∧
   (bd.length≤c1∧(bd=[]∨∃ g,a1=some ⟨g,0,none⟩∧B g∧SsAt w B g 0 bd))∧(els.length≤c2∧(els=[]∨∃ g,a2=some ⟨g,0,none⟩∧B g∧SsAt w B g 0 els))
def SsAt (w:World) (B:Nat→Prop) (g:Nat):Nat→List St→Prop
 | _,[]=>True
 | i,s :: ss=>(∃ cs,SV w B s cs∧∀ j,j < 7→w.cell? ⟨g,i*7+j,none⟩=cs[j]?)∧SsAt w B g (i+1) ss
end
def SsV (w:World) (B:Nat→Prop) (v:Value) (l:List St):Prop:=
 ∃ (a:Option Addr) (cap:Nat),v=.slice a l.length cap∧l.length≤cap∧(l=[]∨∃ g,a=some ⟨g,0,none⟩∧B g∧SsAt w B g 0 l)
theorem SV.mk' {w:World} {B:Nat→Prop} {k n p:Int} {nm:Sec} {xs:List E} {bd els:List St} {va vb vc:Value} (h:EsV w B va xs) (hb:SsV w B vb bd) (hc:SsV w B vc els) :
  SV w B (.mk k nm xs n bd els p) [.int .i64 k,.string (strOf nm),va,.int .i64 n,vb,vc,.int .i64 p]:=by
 obtain ⟨a1,c1,rfl,h1⟩:=hb
 obtain ⟨a2,c2,rfl,h2⟩:=hc
 unfold SV
 exact ⟨va,a1,c1,a2,c2,rfl,h,h1,h2⟩
theorem SV.len {w:World} {B:Nat→Prop} {s:St} {cs:List Value} (h:SV w B s cs):cs.length=7:=by
 cases s
 unfold SV at h
 obtain ⟨va,a1,c1,a2,c2,rfl,_⟩:=h
 rfl
mutual
theorem SV.kept {w w':World} {S:List Nat} {B B':Nat→Prop} (ho:Only S w w') (hs:∀ k∈S,¬ B k) (hB:∀ k,B k→B' k):∀ (s:St) (cs:List Value),SV w B s cs→SV w' B' s cs
 | .mk k nm xs n bd els p,cs,h=>by
  unfold SV at h⊢
  obtain ⟨va,a1,c1,a2,c2,h1,h2,⟨h3,h4⟩,h5,h6⟩:=h
  refine ⟨va,a1,c1,a2,c2,h1,h2.kept ho hs hB,⟨h3,h4.imp id ?_⟩,h5,h6.imp id ?_⟩
  ·rintro ⟨g,e1,e2,e3⟩
   exact ⟨g,e1,hB g e2,SsAt.kept ho hs hB e2 0 bd e3⟩
  ·rintro ⟨g,e1,e2,e3⟩
   exact ⟨g,e1,hB g e2,SsAt.kept ho hs hB e2 0 els e3⟩
theorem SsAt.kept {w w':World} {S:List Nat} {B B':Nat→Prop} (ho:Only S w w') (hs:∀ k∈S,¬ B k) (hB:∀ k,B k→B' k) {g:Nat} (hg:B g):∀ (i:Nat) (l:List St),SsAt w B g i l→SsAt w' B' g i l
 | _,[],h=>by unfold SsAt;trivial
 | i,s :: ss,h=>by
  unfold SsAt at h⊢
  obtain ⟨⟨cs,h1,h2⟩,h3⟩:=h
  refine ⟨⟨cs,SV.kept ho hs hB s cs h1,fun j hj=>?_⟩,SsAt.kept ho hs hB hg (i+1) ss h3⟩
  have hc:=h2 j hj
  obtain ⟨u,hu⟩:∃ u,cs[j]?=some u:=⟨_,List.getElem?_eq_getElem (by rw [h1.len];exact hj)⟩
  rw [hu] at hc⊢
  exact cell_kept ho hc (fun hk=>hs _ hk hg)
end
theorem SsAt.here {w:World} {B:Nat→Prop} {g i:Nat} {l:List St} (hx:l≠[]) (h:SsAt w B g i l):g < w.heap.size:=by
 cases l with
 | nil=>exact absurd rfl hx
 | cons e es=>
  unfold SsAt at h
  obtain ⟨⟨cs,h1,h2⟩,_⟩:=h
  have hc:=h2 0 (by omega)
  obtain ⟨u,hu⟩:∃ u,cs[0]?=some u:=⟨_,List.getElem?_eq_getElem (by rw [h1.len];omega)⟩
  rw [hu] at hc
  exact World.block_lt_of_cell? _ _ hc
theorem EsV.lt {w:World} {B:Nat→Prop} {v:Value} {xs:List E} (h:EsV w B v xs):EsV w (fun b=>B b∧b < w.heap.size) v xs:=by
 obtain ⟨a,cap,h1,h2,h3⟩:=h
 refine ⟨a,cap,h1,h2,?_⟩
 by_cases hx:xs=[]
 ·exact .inl hx
 ·rcases h3 with h3 | ⟨g,h4,h5,h6⟩
  ·exact .inl h3
  ·exact .inr ⟨g,h4,⟨h5,EsAt.here hx h6⟩,EsAt.lt g 0 xs h6⟩
mutual
theorem SV.lt {w:World} {B:Nat→Prop}:∀ (s:St) (cs:List Value),SV w B s cs→SV w (fun b=>B b∧b < w.heap.size) s cs
 | .mk k nm xs n bd els p,cs,h=>by
  unfold SV at h⊢
  obtain ⟨va,a1,c1,a2,c2,h1,h2,⟨h3,h4⟩,h5,h6⟩:=h
  refine ⟨va,a1,c1,a2,c2,h1,h2.lt,⟨h3,?_⟩,h5,?_⟩
  ·by_cases hx:bd=[]
   ·exact .inl hx
   ·rcases h4 with h4 | ⟨g,e1,e2,e3⟩
    ·exact .inl h4
    ·exact .inr ⟨g,e1,⟨e2,SsAt.here hx e3⟩,SsAt.lt g 0 bd e3⟩
  ·by_cases hx:els=[]
   ·exact .inl hx
   ·rcases h6 with h6 | ⟨g,e1,e2,e3⟩
    ·exact .inl h6
    ·exact .inr ⟨g,e1,⟨e2,SsAt.here hx e3⟩,SsAt.lt g 0 els e3⟩
theorem SsAt.lt {w:World} {B:Nat→Prop} (g:Nat):∀ (i:Nat) (l:List St),SsAt w B g i l→SsAt w (fun b=>B b∧b < w.heap.size) g i l
 | _,[],h=>by unfold SsAt;trivial
 | i,s :: ss,h=>by
  unfold SsAt at h⊢
  obtain ⟨⟨cs,h1,h2⟩,h3⟩:=h
  exact ⟨⟨cs,SV.lt s cs h1,h2⟩,SsAt.lt g (i+1) ss h3⟩
end
section
variable {w w':World} {B B':Nat→Prop} {v:Value} {l:List St} {s:St} {cs:List Value}
theorem SsV.kept {S:List Nat} (ho:Only S w w') (hs:∀ k∈S,¬ B k) (hB:∀ k,B k→B' k) (h:SsV w B v l):SsV w' B' v l:=by
 obtain ⟨a,cap,h1,h2,h3⟩:=h
 refine ⟨a,cap,h1,h2,h3.imp id ?_⟩
 rintro ⟨g,h4,h5,h6⟩
 exact ⟨g,h4,hB g h5,SsAt.kept ho hs hB h5 0 l h6⟩
theorem SV.quiet (h:SV w B s cs) (ho:Only [] w w'):SV w' B s cs:=SV.kept ho (by simp) (fun _ h=>h) s cs h
theorem SsV.quiet (h:SsV w B v l) (ho:Only [] w w'):SsV w' B v l:=h.kept ho (by simp) (fun _ h=>h)
theorem SsV.nil (w:World) (B:Nat→Prop):SsV w B (.slice none 0 0) []:=⟨none,0,rfl,Nat.le_refl _,.inl rfl⟩
end
set_option maxHeartbeats 2000000 in
theorem seven_set {W:World} {g:Nat} {z0 z1 z2 z3 z4 z5 z6:Value} {t:TypeId} (h:W.heap[g]?=some (.cells #[z0,z1,z2,z3,z4,z5,z6] t (0,0))) (v0 v1 v2 v3 v4 v5 v6:Value) :
  (((((((W.setCell ⟨g,0,none⟩ v0).setCell ⟨g,1,none⟩ v1).setCell ⟨g,2,none⟩ v2).setCell ⟨g,3,none⟩ v3).setCell ⟨g,4,none⟩ v4).setCell ⟨g,5,none⟩ v5).setCell ⟨g,6,none⟩ v6).heap[g]?=some (.cells #[v0,v1,v2,v3,v4,v5,v6] t (0,0)):=
 heap_cell (i:=6) v6 (heap_cell (i:=5) v5 (heap_cell (i:=4) v4 (heap_cell (i:=3) v3 (heap_cell (i:=2) v2 (heap_cell (i:=1) v1 (heap_cell (i:=0) v0 h))))))
theorem load_stmt (w:World) (g:Nat) (v0 v1 v2 v3 v4 v5 v6:Value) (h:w.heap[g]?=some (.cells #[v0,v1,v2,v3,v4,v5,v6] 102 (0,0))):(loadVar 102 ⟨g,0,none⟩).run Try.prog w=.ok (.agg #[v0,v1,v2,v3,v4,v5,v6]) w:=by
 have c0:w.cell? ⟨g,0,none⟩=some v0:=cell_at 0 h
 have c1:w.cell? ⟨g,1,none⟩=some v1:=cell_at 1 h
 have c2:w.cell? ⟨g,2,none⟩=some v2:=cell_at 2 h
 have c3:w.cell? ⟨g,3,none⟩=some v3:=cell_at 3 h
 have c4:w.cell? ⟨g,4,none⟩=some v4:=cell_at 4 h
 have c5:w.cell? ⟨g,5,none⟩=some v5:=cell_at 5 h
 have c6:w.cell? ⟨g,6,none⟩=some v6:=cell_at 6 h
 clear h
 simp [go_sem,c0,c1,c2,c3,c4,c5,c6]
def RSt (w:World) (r:Except Nat (St×Nat)) (e:Ending) (w':World):Prop:=
 ∃ (k n p:Int) (s:ByteArray) (a1 a2 a3:Option Addr) (l1 l2 l3 c1 c2 c3:Nat),e=.returned (.tuple #[.agg #[.int .i64 k,.string s,.slice a1 l1 c1,.int .i64 n,.slice a2 l2 c2,.slice a3 l3 c3,.int .i64 p],.int .i64 (zR r)])∧
  (∀ t i,r=.ok (t,i)→SV w' (fun b=>w.heap.size≤b) t [.int .i64 k,.string s,.slice a1 l1 c1,.int .i64 n,.slice a2 l2 c2,.slice a3 l3 c3,.int .i64 p])∧Only [] w w'
theorem res_cell (tmps:Array Value) (w:World) (g:Nat) (v0 v1 v2 v3 v4 v5 v6 z:Value) (h6:tmps.getD 6 undef=.pointer (some ⟨g,0,none⟩)) (h7:tmps.getD 7 undef=z) (h:w.heap[g]?=some (.cells #[v0,v1,v2,v3,v4,v5,v6] 102 (0,0))) :
  (results Try.f59 tmps).run Try.prog w=.ok (.tuple #[.agg #[v0,v1,v2,v3,v4,v5,v6],z]) w:=by
 have hl:=load_stmt w g v0 v1 v2 v3 v4 v5 v6 h
 have h6':tmps[6]?.getD undef=.pointer (some ⟨g,0,none⟩):=by simpa using h6
 have h7':tmps[7]?.getD undef=z:=by simpa using h7
 simp [results,Try.results59,asAddr,h6',h7',hl]
theorem res_stmt (tmps:Array Value) (w:World) (g:Nat) (v0 v1 v2 v3 v4 v5 v6 z:Value) (h6:tmps.getD 6 undef=.pointer (some ⟨g,0,none⟩)) (h7:tmps.getD 7 undef=z) (h:w.heap[g]?=some (.cells #[v0,v1,v2,v3,v4,v5,v6] 102 (0,0))) :
  (results Try.f44 tmps).run Try.prog w=.ok (.tuple #[.agg #[v0,v1,v2,v3,v4,v5,v6],z]) w:=by
 have hl:=load_stmt w g v0 v1 v2 v3 v4 v5 v6 h
 have h6':tmps[6]?.getD undef=.pointer (some ⟨g,0,none⟩):=by simpa using h6
 have h7':tmps[7]?.getD undef=z:=by simpa using h7
 simp [results,Try.results44,asAddr,h6',h7',hl]
end Go.Proofs.Ytiaeagpepfmfgaa
