import Derived.Test.YtiaeagpepfmfgaaZ18r
import Derived.Test.YtiaeagpepfmfgaaZ9r
namespace Go.Proofs.Ytiaeagpepfmfgaa
open Go.RowKit Go.Maps
set_option linter.unusedSimpArgs false
set_option linter.unusedVariables false
section
variable {w w':World} {v:Value} {c:List Int} {g:Nat}
theorem OCe.ints (h:OCe w v c) (hc:CW c):IntsV w v c:=owns_ints h (fun x hx=>n64_wf (hc.in_ x hx))
theorem OCe.cer (h:OCe w v c) (hc:CW c):CeR w v c:=⟨h.ints hc,hc⟩
theorem OCe.blk (h:OCe w v c) (hg:v.ownBlock=some g):∃ cap cur,v=.slice (some ⟨g,0,none⟩) c.length cap∧w.heap[g]?=some (.cells cur 3 (0,0))∧c.length≤cap∧cur.size=cap∧cur.toList.take c.length=iv c:=by
 rcases h.2 with ⟨rfl,_⟩ | ⟨g',cap,cur,rfl,hb,hg',h1,h2,h3,h4⟩
 ·cases hg
 ·obtain rfl:g'=g:=by simpa [Value.ownBlock] using hg
  exact ⟨cap,cur,rfl,hg',h1,by omega,by simpa using h4⟩
theorem OCe.cell (h:OCe w v c) (hg:v.ownBlock=some g) {i:Nat} (hi:i < c.length):w.cell? ⟨g,i,none⟩=some (.int .i64 (c.getD i 0))∧w.frozen? ⟨g,i,none⟩=false:=by
 obtain ⟨cap,cur,rfl,hb,h1,h2,h3⟩:=h.blk hg
 refine ⟨?_,free_at i hb⟩
 rw [cell_at _ hb]
 have e:(iv c)[i]?=some (.int .i64 (c.getD i 0)):=by
  unfold iv
  rw [List.getElem?_map,List.getElem?_eq_getElem hi,List.getD_eq_getElem?_getD,List.getElem?_eq_getElem hi]
  rfl
 rw [← h3,List.getElem?_take_of_lt hi] at e
 simpa using e
theorem OCe.set (h:OCe w v c) (hg:v.ownBlock=some g) (i:Nat) (z:Int):OCe (w.setCell ⟨g,i,none⟩ (.int .i64 z)) v (c.set i z):=by
 rcases h.2 with ⟨rfl,_⟩ | ⟨g',cap,cur,rfl,hb,hg',h1,h2,h3,h4⟩
 ·cases hg
 ·obtain rfl:g'=g:=by simpa [Value.ownBlock] using hg
  have e:iv (c.set i z)=(iv c).set i (.int .i64 z):=by simp [iv,List.map_set]
  unfold OCe
  rw [List.length_set,e]
  refine ⟨by rw [List.length_set];exact h.1,.inr ⟨g',cap,_,rfl,hb,heap_cell (i:=i) (.int .i64 z) hg',h1,h2,by rw [Array.size_setIfInBounds];exact h3,?_⟩⟩
  rw [Array.toList_setIfInBounds,List.take_set,h4]
end
mutual
theorem dcS_w:∀ (x:St) (s:List Int×VE),wS x→gS x→fewS x→CW s.1→NW (lastE s.2)→NoF s.2→CW (dcS x s).1∧NW (lastE (dcS x s).2)∧NoF (dcS x s).2∧(dcS x s).2.length≤s.2.length+sizeS x
 | .mk k nm xs n bd els p,s,hw,hg,hf,h1,h2,h3=>by
  have hsz:=sizeS_mk k nm xs n bd els p
  unfold wS at hw
  unfold gS at hg
  unfold fewS at hf
  obtain ⟨-,-,hx,hb,he⟩:=hw
  obtain ⟨gn,gx,gb,ge⟩:=hg
  have hnf:nm≠[102,97,108,115,101]:=fun e=>gn (by rw [e];decide)
  have nof:∀ v:Int,NoF (s.2++[(nm,v)]):=fun v x hx=>by
   rcases List.mem_append.1 hx with h | h
   ·exact h3 x h
   ·rw [List.mem_singleton.1 h];exact hnf
  unfold dcS
  split
  ·refine ⟨h1,?_,nof _,?_⟩
   ·dsimp only
    rw [lastE_snoc]
    exact h2.put _ (exVs_n64 h1 h2 0 xs gx)
   ·dsimp only
    rw [List.length_append,hsz]
    simp
    omega
  ·split
   ·refine ⟨?_,h2,h3,by dsimp only;omega⟩
    dsimp only
    split
    ·exact (dcB_w bd s hb gb hf.2.1 h1 h2 h3).1
    ·exact (dcB_w els s he ge hf.2.2 h1 h2 h3).1
   ·split
    ·rename_i hk
     refine ⟨loopA_inv CW n.toNat (fun i c hi hc=>(dcB_w bd (c,s.2++[(nm,(i:Int))]) hb gb hf.2.1 hc ?_ (nof _)).1) _ (Nat.le_refl _) s.1 h1,h2,h3,by dsimp only;omega⟩
     rw [lastE_snoc]
     refine h2.put _ ?_
     have:=hf.1 (.inl hk)
     unfold n64
     omega
    ·split
     ·rename_i hk
      refine ⟨loopA_inv CW n.toNat (fun i c hi hc=>(dcB_w bd (c,s.2++[(nm,n - 1 - (i:Int))]) hb gb hf.2.1 hc ?_ (nof _)).1) _ (Nat.le_refl _) s.1 h1,h2,h3,by dsimp only;omega⟩
      rw [lastE_snoc]
      refine h2.put _ ?_
      have:=hf.1 (.inr hk)
      unfold n64
      omega
     ·split
      ·exact ⟨h1.swp _ _,h2,h3,by dsimp only;omega⟩
      ·exact ⟨h1.chg _ _ (exVs_n64 h1 h2 1 xs gx),h2,h3,by dsimp only;omega⟩
theorem dcB_w:∀ (xs:List St) (s:List Int×VE),wB xs→gB xs→fewB xs→CW s.1→NW (lastE s.2)→NoF s.2→CW (dcB xs s).1∧NW (lastE (dcB xs s).2)∧NoF (dcB xs s).2∧(dcB xs s).2.length≤s.2.length+sizeSs xs
 | [],s,_,_,_,h1,h2,h3=>by unfold dcB;exact ⟨h1,h2,h3,by omega⟩
 | x :: xs,s,hw,hg,hf,h1,h2,h3=>by
  unfold wB at hw
  unfold gB at hg
  unfold fewB at hf
  obtain ⟨a1,a2,a3,a4⟩:=dcS_w x s hw.1 hg.1 hf.1 h1 h2 h3
  obtain ⟨b1,b2,b3,b4⟩:=dcB_w xs (dcS x s) hw.2 hg.2 hf.2 a1 a2 a3
  unfold dcB
  exact ⟨b1,b2,b3,by rw [sizeSs_cons];omega⟩
end
theorem dcB_drop {s:List Int×VE} {xs:List St} {j:Nat} {e:St} (hj:xs[j]?=some e):dcB (xs.drop j) s=dcB (xs.drop (j+1)) (dcS e s):=by
 obtain ⟨hlt,rfl⟩:=List.getElem?_eq_some_iff.1 hj
 rw [List.drop_eq_getElem_cons hlt]
 conv=>lhs;unfold dcB
theorem dcB_nil (s:List Int×VE):dcB [] s=s:=by unfold dcB;rfl
structure DW (c:List Int) (env:VE):Prop where
 cw:CW c
 nw:NW (lastE env)
 nf:NoF env
structure RI (w wr:World) (gc:Nat) (cv:Value) (c:List Int) (ve:Value) (env:VE):Prop where
 o:Only [gc] w wr
 ce:OCe wr cv c
 own:cv.ownBlock=some gc
 e:OVe wr ve env
 n:∀ q,ve.ownBlock=some q→w.heap.size≤q
section
variable {w wr w2:World} {gc:Nat} {cv ve ve2:Value} {c:List Int} {env env2:VE}
theorem RI.ne (h:RI w wr gc cv c ve env):∀ q,ve.ownBlock=some q→q≠gc:=fun q hq e=>by
 obtain ⟨cap,cur,_,hb,_⟩:=h.ce.blk h.own
 rw [← e] at hb
 exact absurd (h.e.ty hq hb) (by decide)
theorem RI.quiet (h:RI w wr gc cv c ve env) (ho:Only [] wr w2):RI w w2 gc cv c ve env:=
 ⟨h.o.trans ho (by simp),h.ce.kept ho (by simp),h.own,h.e.kept ho (by simp),h.n⟩
theorem RI.grow (h:RI w wr gc cv c ve env) (hw:gc < w.heap.size) (he:OVe w2 ve2 env2) (hx:Ext wr ve w2 ve2):RI w w2 gc cv c ve2 env2:=
 ⟨h.o.trans hx.only (fun q hq=>.inr (h.n q (by simpa using hq))),h.ce.kept hx.only (fun q hq e=>by
  have h1:=h.ne q (by simpa using hq)
  rw [h.own] at e
  exact h1 (Option.some.inj e).symm),h.own,he,fun q hq=>(hx.src q hq).elim (h.n q) (fun e=>Nat.le_trans h.o.size e)⟩
theorem RI.cells {c2:List Int} (h:RI w wr gc cv c ve env) (ho:Only [gc] wr w2) (hc:OCe w2 cv c2):RI w w2 gc cv c2 ve env:=
 ⟨h.o.trans ho (fun k hk=>.inl hk),hc,h.own,h.e.kept ho (fun q hq e=>h.ne q e (List.mem_singleton.1 hq)),h.n⟩
theorem RI.set (h:RI w wr gc cv c ve env) (i:Nat) (z:Int):RI w (wr.setCell ⟨gc,i,none⟩ (.int .i64 z)) gc cv (c.set i z) ve env:=
 h.cells ((Only.refl _ _).setCell (.inl (by simp)) _) (h.ce.set h.own i z)
theorem RI.box {k:Nat} {cs:Array Value} {t:TypeId} {fr:Nat×Nat} (h:RI w wr gc cv c ve env) (hx:Ext wr ve w2 ve2) (hk:wr.heap[k]?=some (.cells cs t fr)) (ht:t≠75):w2.heap[k]?=some (.cells cs t fr):=
 hx.only.heap hk (fun e=>ht (h.e.ty (by simpa using e) hk))
end
end Go.Proofs.Ytiaeagpepfmfgaa
