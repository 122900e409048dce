import Derived.Test.YtcebchffcmpfeaaGreatIbt
import Derived.Test.YtcebchffcmpfeaaGreatZct
namespace Go.Proofs.YtcebchffcmpfeaaGreat
set_option linter.unusedVariables false
set_option linter.unusedSimpArgs false
set_option linter.unusedSectionVars false
set_option maxRecDepth 100000
set_option maxHeartbeats 16000000
open Go.RowKit Go.Maps
abbrev Ins:=Int×Int
structure Lp where
 loc:Int
 n:Int
 fr:Int
 lst:Int
structure Cd where
 params:Int
 locals:Int
 ins:List Ins
 loops:List Lp
def rA (nm:Sec):Bool:=decide (nm=[116,114,117,101]) || decide (nm=[102,97,108,115,101])
mutual
def mg:E→Bool | .mk k _ nm xs _=>if k=3 then false else if k=2 then rA nm else fixL xs
def fixL:List E→Bool | []=>true | x :: xs=>mg x && fixL xs
end
def idxF:List Sec→Sec→Nat→Nat | [],_,_=>0 | x :: xs,nm,i=>if x=nm then i else idxF xs nm (i+1)
def xX (l:List Sec) (nm:Sec):Nat:=idxF l nm 0
def ops13:List Sec:=[[43],[45],[42],[47],[37],[60],[60,61],[62],[62,61],[61,61],[33,61],[38,38],[124,124]]
def opF:List Sec→Sec→Int→Int | [],_,_=>0 | x :: xs,nm,i=>if x=nm then i+1 else opF xs nm (i+1)
def opN (nm:Sec):Int:=opF ops13 nm 0
def tailI (k:Int) (nm:Sec):Ins:=if k=3 then (4,0) else if k=5 then (10,0) else if k=4 then (11,0) else (9,opN nm)
structure Nv where
 lc:Sec→Int
 c7:Sec→Int
 c8:Sec→Int
mutual
def gx (F:Nv):E→List Ins
 | .mk k n nm xs p=>if mg (.mk k n nm xs p)=true then [(1,exV blankP (bJ []) (.mk k n nm xs p))] else if k=2 then [(2,F.lc nm)] else cM F xs++[tailI k nm]
def cM (F:Nv):List E→List Ins | []=>[] | x :: xs=>gx F x++cM F xs
end
mutual
def mE (F:Nv):St→Nat→List Lp→List Ins×List Lp
 | .mk k nm xs n bd els p,h,lp=>
  if k=1 then (cM F xs++[(3,F.lc nm)],lp)
  else if k=6 then
   let c:=cM F xs
   let b:=cB F bd (h+c.length+1) lp
   if els.length=0 then (c++[(13,((h+c.length+1+b.1.length:Nat):Int))]++b.1,b.2)
   else
    let m:=cB F els (h+c.length+1+b.1.length+1) b.2
    (c++[(13,((h+c.length+1+b.1.length+1:Nat):Int))]++b.1++[(12,((h+c.length+1+b.1.length+1+m.1.length:Nat):Int))]++m.1,m.2)
  else if k=7 then
   if n=0 then (cM F xs,lp)
   else
    let b:=cB F bd (h+2) lp
    ([(1,0),(3,F.c7 nm)]++b.1++[(14,(b.2.length:Int))],b.2++[⟨F.c7 nm,n,((h+2:Nat):Int),((h+2+b.1.length:Nat):Int)⟩])
  else if k=8 then
   if n=0 then (cM F xs,lp)
   else
    let b:=cB F bd (h+6) lp
    ([(1,0),(3,F.c8 nm),(1,n - 1),(2,F.c8 nm),(9,2),(3,F.lc nm)]++b.1++[(14,(b.2.length:Int))],
     b.2++[⟨F.c8 nm,n,((h+2:Nat):Int),((h+6+b.1.length:Nat):Int)⟩])
  else if k=2 then (cM F xs++[(5,0)],lp) else if k=3 then (cM F xs++[(6,0)],lp) else if k=4 then (cM F xs++[(7,0)],lp) else if k=5 then (cM F xs++[(8,0)],lp)
  else (cM F xs,lp)
def cB (F:Nv):List St→Nat→List Lp→List Ins×List Lp
 | [],_,lp=>([],lp)
 | s :: ss,h,lp=>
  let c:=mE F s h lp
  let r:=cB F ss (h+c.1.length) c.2
  (c.1++r.1,r.2)
end
abbrev Dc:=Sec×Int×Int
mutual
def cy:St→List Dc | .mk k nm _ _ bd els p=>(if k=1∨k=7∨k=8 then [(nm,p,k)] else [])++aA bd++aA els
def aA:List St→List Dc | []=>[] | x :: xs=>cy x++aA xs
end
def tZ:List Dc→Nat→Nat→Int→Nat | [],_,k,_=>k | x :: xs,i,k,p=>if x.2.1 < p then tZ xs (i+1) i x.2.1 else tZ xs (i+1) k p
def minK:List Dc→Nat | []=>0 | x :: xs=>tZ xs 1 0 x.2.1
def tl:Nat→List Dc→List Dc | 0,_=>[] | f+1,l=>match l[minK l]? with | none=>[] | some x=>x :: tl f (l.eraseIdx (minK l))
def iS (l:List Dc):List Dc:=tl l.length l
def dx (F:Nv):List E→List Ins | []=>[] | x :: xs=>gx F x++[(15,0)]++dx F xs
def cE (F:Nv):List E→List Ins | []=>[] | x :: xs=>gx F x++[(16,0)]++cE F xs
def genC (F:Nv) (locals:Int) (d:Df):Cd:=
 let nd:=dx F d.needs
 let b:=cB F d.body nd.length []
 ⟨d.params.length,locals,nd++b.1++cE F d.give,b.2⟩
def eU (d:Df):List Sec:=d.params++(iS (aA d.body)).map (·.1)
def io (k:Int) (d:Df):List Sec:=((iS (aA d.body)).filter (fun x=>decide (x.2.2=k))).map (·.1)
def refV (L C:List Sec):Nv:=⟨fun nm=>(xX L nm:Int),fun nm=>(xX L nm:Int),fun nm=>((L.length+xX C nm:Nat):Int)⟩
def genD (d:Df):Cd:=genC (refV (eU d) (io 8 d)) (((eU d).length+(io 8 d).length:Nat):Int) d
def rI:RowT Ins:=⟨52,22,2,fun x=>[.int .i64 x.1,.int .i64 x.2],.agg #[.int .i64 0,.int .i64 0],16,Tryz.underlying22,by kernel_rfl,rfl,by omega,by omega,fun _=>rfl,fun x u hu=>by simp at hu;rcases hu with rfl | rfl<;>rfl⟩
def rL:RowT Lp:=⟨54,23,4,fun x=>[.int .i64 x.loc,.int .i64 x.n,.int .i64 x.fr,.int .i64 x.lst],.agg #[.int .i64 0,.int .i64 0,.int .i64 0,.int .i64 0],32,Tryz.underlying23,by kernel_rfl,rfl,by omega,by omega,fun _=>rfl,fun x u hu=>by simp at hu;rcases hu with rfl | rfl | rfl | rfl<;>rfl⟩
abbrev OIns (w:World) (base:Nat) (v:Value) (l:List Ins):Prop:=OR rI w base v l
abbrev OLps (w:World) (base:Nat) (v:Value) (l:List Lp):Prop:=OR rL w base v l
structure MS where
 pa:Int
 lo:Int
 ins:List Ins
 lps:List Lp
 lm:Nms
 cm:Nms
def MS.nv (s:MS):Nv:=⟨fun nm=>(s.lm nm).getD 0,fun nm=>(s.cm nm).getD 0,fun nm=>(s.cm nm).getD 0⟩
def mkA (s:MS) (v u:Value) (bl bc:Nat):Array Value:=#[.int .i64 s.pa,.int .i64 s.lo,v,u,.map (some bl),.map (some bc)]
structure MK (w:World) (base g:Nat) (s:MS) (v u:Value) (bl bc:Nat):Prop where
 row:w.heap[g]?=some (.cells (mkA s v u bl bc) 92 (0,0))
 gb:base≤g
 ins:OIns w base v s.ins
 lps:OLps w base u s.lps
 lmap:∃ n,n≤60000∧NMap w bl 3 n n s.lm
 cmap:∃ n,n≤60000∧NMap w bc 3 n n s.cm
section
variable {w w':World} {base g:Nat} {s:MS} {v u:Value} {bl bc:Nat}
theorem MK.kept (h:MK w base g s v u bl bc) {S:List Nat} (ho:Only S w w') (hg:g∉S) (hv:∀ k∈S,v.ownBlock≠some k) (hu:∀ k∈S,u.ownBlock≠some k) (hl:bl∉S) (hc:bc∉S):MK w' base g s v u bl bc:=by
 obtain ⟨n1,h1,h2⟩:=h.lmap;obtain ⟨n2,h3,h4⟩:=h.cmap;exact ⟨ho.heap h.row hg,h.gb,h.ins.kept ho hv,h.lps.kept ho hu,⟨n1,h1,h2.kept ho hl⟩,⟨n2,h3,h4.kept ho hc⟩⟩
theorem MK.quiet (h:MK w base g s v u bl bc) (ho:Only [] w w'):MK w' base g s v u bl bc:=h.kept ho (by simp) (by simp) (by simp) (by simp) (by simp)
theorem MK.lt (h:MK w base g s v u bl bc):g < w.heap.size:=ak h.row
theorem MK.free (h:MK w base g s v u bl bc) (i:Nat):w.frozen? ⟨g,i,none⟩=false:=ae i h.row
theorem MK.vg (h:MK w base g s v u bl bc):v.ownBlock≠some g:=fun e=>absurd (h.ins.ty e h.row) (by decide)
theorem MK.ug (h:MK w base g s v u bl bc):u.ownBlock≠some g:=fun e=>absurd (h.lps.ty e h.row) (by decide)
theorem OR.block {α:Type} {R:RowT α} {l:List α} (h:OR R w base v l) {k:Nat} (hk:v.ownBlock=some k):∃ c,w.heap[k]?=some (.cells c R.t (0,0)):=by
 rcases h.2 with ⟨rfl,_⟩ | ⟨g,cap,cur,rfl,hb,hg,r⟩
 ·cases hk
 ·obtain rfl:g=k:=by simpa [Value.ownBlock] using hk
  exact ⟨_,hg⟩
theorem MK.vu (h:MK w base g s v u bl bc) {k:Nat} (hv:v.ownBlock=some k):u.ownBlock≠some k:=fun e=>by
 obtain ⟨c,hc⟩:=h.ins.block hv;exact absurd (h.lps.ty e hc) (by decide)
theorem MK.lg (h:MK w base g s v u bl bc):bl≠g:=by obtain ⟨n,_,h1⟩:=h.lmap;exact h1.ne h.row
theorem MK.cg (h:MK w base g s v u bl bc):bc≠g:=by obtain ⟨n,_,h1⟩:=h.cmap;exact h1.ne h.row
theorem MK.lv (h:MK w base g s v u bl bc) {k:Nat} (hv:v.ownBlock=some k):bl≠k:=by
 obtain ⟨c,hc⟩:=h.ins.block hv;obtain ⟨n,_,h1⟩:=h.lmap;exact h1.ne hc
theorem MK.cv (h:MK w base g s v u bl bc) {k:Nat} (hv:v.ownBlock=some k):bc≠k:=by
 obtain ⟨c,hc⟩:=h.ins.block hv;obtain ⟨n,_,h1⟩:=h.cmap;exact h1.ne hc
theorem MK.lu (h:MK w base g s v u bl bc) {k:Nat} (hv:u.ownBlock=some k):bl≠k:=by
 obtain ⟨c,hc⟩:=h.lps.block hv;obtain ⟨n,_,h1⟩:=h.lmap;exact h1.ne hc
theorem MK.cu (h:MK w base g s v u bl bc) {k:Nat} (hv:u.ownBlock=some k):bc≠k:=by
 obtain ⟨c,hc⟩:=h.lps.block hv;obtain ⟨n,_,h1⟩:=h.cmap;exact h1.ne hc
theorem MK.c2 (h:MK w base g s v u bl bc):w.cell? ⟨g,2,none⟩=some v:=ab 2 h.row
theorem MK.c3 (h:MK w base g s v u bl bc):w.cell? ⟨g,3,none⟩=some u:=ab 3 h.row
theorem MK.c4 (h:MK w base g s v u bl bc):w.cell? ⟨g,4,none⟩=some (.map (some bl)):=ab 4 h.row
theorem MK.c5 (h:MK w base g s v u bl bc):w.cell? ⟨g,5,none⟩=some (.map (some bc)):=ab 5 h.row
end
structure MTo (w:World) (g:Nat) (v u:Value) (w':World) (v' u':Value):Prop where
 only:Only (g :: (v.ownBlock.toList++u.ownBlock.toList)) w w'
 sv:∀ k,v'.ownBlock=some k→v.ownBlock=some k∨w.heap.size≤k
 su:∀ k,u'.ownBlock=some k→u.ownBlock=some k∨w.heap.size≤k
section
variable {w w1 w':World} {g:Nat} {v u v1 u1 v' u':Value}
theorem MTo.refl (w:World) (g:Nat) (v u:Value):MTo w g v u w v u:=⟨Only.refl _ _,fun _ h=>.inl h,fun _ h=>.inl h⟩
theorem MTo.trans (h:MTo w g v u w1 v1 u1) (k:MTo w1 g v1 u1 w' v' u'):MTo w g v u w' v' u':=
 ⟨h.only.trans k.only (fun x hx=>by
  simp only [List.mem_cons,List.mem_append,Option.mem_toList] at hx⊢;rcases hx with hx | hx | hx
  ·exact .inl (.inl hx)
  ·rcases h.sv x hx with h1 | h1
   ·exact .inl (.inr (.inl h1))
   ·exact .inr h1
  ·rcases h.su x hx with h1 | h1
   ·exact .inl (.inr (.inr h1))
   ·exact .inr h1),fun x hx=>by
  rcases k.sv x hx with h1 | h1
  ·exact h.sv x h1
  ·exact .inr (Nat.le_trans h.only.size h1),fun x hx=>by
  rcases k.su x hx with h1 | h1
  ·exact h.su x h1
  ·exact .inr (Nat.le_trans h.only.size h1)⟩
theorem MTo.quiet (h:MTo w g v u w1 v1 u1) (o:Only [] w1 w'):MTo w g v u w' v1 u1:=⟨h.only.trans o (by simp),h.sv,h.su⟩
theorem MTo.before (o:Only [] w w1) (h:MTo w1 g v u w' v' u'):MTo w g v u w' v' u':=
 ⟨(o.mono (by simp)).trans h.only (fun x hx=>.inl hx),fun x hx=>(h.sv x hx).imp id fun h1=>Nat.le_trans o.size h1,fun x hx=>(h.su x hx).imp id fun h1=>Nat.le_trans o.size h1⟩
theorem MTo.heap (h:MTo w g v u w' v' u') {k:Nat} {o:Obj} (hk:w.heap[k]?=some o) (h1:k≠g) (h2:v.ownBlock≠some k) (h3:u.ownBlock≠some k):w'.heap[k]?=some o:=
 h.only.heap hk (by simp only [List.mem_cons,List.mem_append,Option.mem_toList,not_or];exact ⟨h1,h2,h3⟩)
end
theorem MK.grown {w w1 w2:World} {base g:Nat} {s:MS} {v v' u:Value} {bl bc:Nat} {l':List Ins} (h:MK w base g s v u bl bc) (o1:Only [] w w1) (h2:OIns w2 base v' l') (x2:Ext w1 v w2 v') :
  w2.heap[g]?=some (.cells (mkA s v u bl bc) 92 (0,0))∧MK (w2.setCell ⟨g,2,none⟩ v') base g {s with ins:=l' } v' u bl bc∧MTo w g v u (w2.setCell ⟨g,2,none⟩ v') v' u:=by
 have H1:=h.quiet o1;have hS:∀ k∈v.ownBlock.toList,v.ownBlock=some k:=fun k hk=>by simpa using hk
 have hrow:w2.heap[g]?=some (.cells (mkA s v u bl bc) 92 (0,0)):=x2.only.heap H1.row (fun e=>H1.vg (hS g e));have oG:Only [g] w2 (w2.setCell ⟨g,2,none⟩ v'):=oc;have hvg:v'.ownBlock≠some g:=fun e=>absurd (h2.ty e hrow) (by decide);have hlps:=H1.lps.kept x2.only (fun k hk e=>H1.vu (hS k hk) e);obtain ⟨n1,a1,m1⟩:=H1.lmap;obtain ⟨n2,a2,m2⟩:=H1.cmap;have hm1:=m1.kept x2.only (fun e=>H1.lv (hS bl e) rfl);have hm2:=m2.kept x2.only (fun e=>H1.cv (hS bc e) rfl);refine ⟨hrow,⟨?_,h.gb,h2.kept oG (fun k hk=>by rw [List.mem_singleton.1 hk];exact hvg),hlps.kept oG (fun k hk=>by rw [List.mem_singleton.1 hk];exact H1.ug),⟨n1,a1,hm1.kept oG (by simpa using H1.lg)⟩,⟨n2,a2,hm2.kept oG (by simpa using H1.cg)⟩⟩,⟨?_,fun k hk=>?_,fun k hk=>.inl hk⟩⟩
 ·have:=af (i:=2) v' hrow;simpa [mkA] using this
 ·exact (o1.mono (by simp)).trans ((x2.only.mono (T:=g :: (v.ownBlock.toList++u.ownBlock.toList)) (fun k hk=>by simp at hk⊢;exact .inr (.inl hk))).setCell (.inl (by simp)) _) (fun k hk=>.inl hk)
 ·rcases x2.src k hk with e | e
  ·exact .inl e
  ·exact .inr (Nat.le_trans o1.size e)
theorem MK.grownL {w w1 w2:World} {base g:Nat} {s:MS} {v u' u:Value} {bl bc:Nat} {l':List Lp} (h:MK w base g s v u bl bc) (o1:Only [] w w1) (h2:OLps w2 base u' l') (x2:Ext w1 u w2 u') :
  w2.heap[g]?=some (.cells (mkA s v u bl bc) 92 (0,0))∧MK (w2.setCell ⟨g,3,none⟩ u') base g {s with lps:=l' } v u' bl bc∧MTo w g v u (w2.setCell ⟨g,3,none⟩ u') v u':=by
 have H1:=h.quiet o1;have hS:∀ k∈u.ownBlock.toList,u.ownBlock=some k:=fun k hk=>by simpa using hk
 have hrow:w2.heap[g]?=some (.cells (mkA s v u bl bc) 92 (0,0)):=x2.only.heap H1.row (fun e=>H1.ug (hS g e));have oG:Only [g] w2 (w2.setCell ⟨g,3,none⟩ u'):=oc;have hug:u'.ownBlock≠some g:=fun e=>absurd (h2.ty e hrow) (by decide);have hins:=H1.ins.kept x2.only (fun k hk e=>H1.vu e (hS k hk));obtain ⟨n1,a1,m1⟩:=H1.lmap;obtain ⟨n2,a2,m2⟩:=H1.cmap;have hm1:=m1.kept x2.only (fun e=>H1.lu (hS bl e) rfl);have hm2:=m2.kept x2.only (fun e=>H1.cu (hS bc e) rfl);refine ⟨hrow,⟨?_,h.gb,hins.kept oG (fun k hk=>by rw [List.mem_singleton.1 hk];exact H1.vg),h2.kept oG (fun k hk=>by rw [List.mem_singleton.1 hk];exact hug),⟨n1,a1,hm1.kept oG (by simpa using H1.lg)⟩,⟨n2,a2,hm2.kept oG (by simpa using H1.cg)⟩⟩,⟨?_,fun k hk=>.inl hk,fun k hk=>?_⟩⟩
 ·have:=af (i:=3) u' hrow;simpa [mkA] using this
 ·exact (o1.mono (by simp)).trans ((x2.only.mono (T:=g :: (v.ownBlock.toList++u.ownBlock.toList)) (fun k hk=>by simp at hk⊢;exact .inr (.inr hk))).setCell (.inl (by simp)) _) (fun k hk=>.inl hk)
 ·rcases x2.src k hk with e | e
  ·exact .inl e
  ·exact .inr (Nat.le_trans o1.size e)
theorem MK.below {w w':World} {base g:Nat} {s:MS} {v u v' u':Value} {bl bc:Nat} (h:MK w base g s v u bl bc) (t:MTo w g v u w' v' u'):∀ k∈g :: (v.ownBlock.toList++u.ownBlock.toList),base≤k:=fun k hk=>by
 simp only [List.mem_cons,List.mem_append,Option.mem_toList] at hk;rcases hk with rfl | hk | hk
 ·exact h.gb
 ·exact (h.ins.lt hk).1
 ·exact (h.lps.lt hk).1
theorem tm {H:Type} {P:Program} {w:World} {k t e:TypeId} {R:Value→Option (DataW H×List MemPlace)} {b n:Nat} {D:DataW H} (h:w.ownsMap P k R b n D) (K:Keyed P k) (ht:P.underlying t=some (.map k e)) {z:Value} (hz:(zeroValue e).run P w=.ok z w) {zd:DataW H} {zp:List MemPlace} (hzd:R z=some (zd,zp))
  {key:Value} {kl:Lit} (hkey:keyOf P k key=some kl):∃ v ps,(Instr.lookup t (.map (some b)) key false).run P w=.ok v w∧R v=some (D.atKey kl zd,ps):=by
 obtain ⟨es,clock,hb,F,_,rfl⟩:=h;rcases Maps.fit_look false K ht hz hb F hkey with ⟨hrun,_,hat⟩ | ⟨e0,y,_,_,hrun,hRv,hat,_⟩
 ·exact ⟨z,zp,hrun,by rw [hat zd];exact hzd⟩
 ·exact ⟨e0.val,y.2,hrun,by rw [hat zd];exact hRv⟩
theorem NMap.look1 {t e:TypeId} {w:World} {b n cnt:Nat} {m:Nms} (ht:Tryz.prog.underlying t=some (.map 9 e)) (he:Tryz.prog.underlying e=some (.int .i64)) (hz:∀ w,(zeroValue e).run Tryz.prog w=.ok (.int .i64 0) w) (h:NMap w b e n cnt m) {k:Sec} (hk:k.length≤65536) :
  (Instr.lookup t (.map (some b)) (.string (aj k)) false).run Tryz.prog w=.ok (.int .i64 ((m k).getD 0)) w:=by
 obtain ⟨D,ho,hr,_⟩:=h;obtain ⟨v,ps,hrun,hv⟩:=tm ho fA ht (hz w) (plainElem_int he (by decide)) (qR hk);obtain ⟨c,rfl,hc,hwc⟩:=plainElem_int_inv he hv;simp only [Prod.mk.injEq] at hc;rw [hrun];cases hm:m k with
 | none=>
  have hh:=hr.has k;rw [hm] at hh;rw [Maps.atKey_of_not_has (by simpa using hh)] at hc;obtain ⟨hc,_⟩:=hc;cases hc;rfl
 | some l'=>
  rw [hr.at_ k l' hm] at hc;obtain ⟨hc,_⟩:=hc;cases hc;rfl
section
variable {w:World} {base g:Nat} {s:MS} {v u:Value} {bl bc:Nat}
theorem wv (h:MK w base g s v u bl bc) (hb:base≤w.heap.size) (d n:Int) (hf:s.ins.length≤400000) :
  Calls Tryz.prog 37 #[.pointer (some ⟨g,0,none⟩),.int .i64 d,.int .i64 n] w fun e w'=>e=.returned (.int .i64 (s.ins.length:Nat))∧∃ v',MK w' base g {s with ins:=s.ins++[(d,n)] } v' u bl bc∧MTo w g v u w' v' u:=by
 obtain ⟨a,cap,rfl⟩:=h.ins.shape;obtain ⟨L,hL⟩:∃ L,L=s.ins.length:=⟨_,rfl⟩
 rw [← hL] at h hf⊢;have HH:=Hd h;have HL:=Hd hL;have c2:=h.c2;have c3:=h.c3;have hg:=h.lt;have hg':g≠w.heap.size:=by omega
 have o1:Only [] w (w.alloc (.cells #[.int .i64 d,.int .i64 n] 52)):=(Only.refl _ _).alloc _;have hs1:(w.alloc (.cells #[.int .i64 d,.int .i64 n] 52)).heap.size=w.heap.size+1:=Array.size_push _;have hn:=ag w (.cells #[.int .i64 d,.int .i64 n] 52);have HO:=Hd o1;have HS:=Hd hs1;have HN:=Hd hn;have hcast:((L+1:Nat):Int) - 1=(L:Int):=by omega
 have hw:IntKind.i64.wrap ((L:Nat):Int)=(L:Int):=by rw [IntKind.wrap_i64];omega
 clear h hL o1 hs1 hn c3
 go_enter Tryz.func37,Tryz.ntmps37
 go_wp2_with (refine az (R:=rI) rfl (.tmp 12) (.tmp 16) rfl base (.slice a L cap) s.ins (by rfl) (HH.out.ins.quiet HO.out) (.slice (some ⟨w.heap.size,0,none⟩) 1 1) [(d,n)] (by rfl) (dz _ _ _ (fun j z hj=>by rw [ab j HN.out];simpa [rI] using hj)) (L+1) (by rw [← HL.out];rfl) _ rfl (by omega) (by rw [HS.out];omega) ?_;intro a2 cap2 w2 h2 x2;obtain ⟨r1,r2,r3⟩:=HH.out.grown HO.out h2 x2;have R2:=Hd r2;have R3:=Hd r3;have f2:=ae 2 r1;have d2:w2.cell? ⟨g,2,none⟩=some (.slice a L cap):=ab 2 r1;clear r1 r2 r3 h2 x2)
 go_ret;exact ⟨rfl,_,R2.out,R3.out⟩
theorem MK.landed {gv L cap:Nat} (h:MK w base g s (.slice (some ⟨gv,0,none⟩) L cap) u bl bc) {k:Nat} {d n:Int} (hk:s.ins[k]?=some (d,n)) (z:Int) :
  MK (w.setCell ⟨gv,k*2+1,none⟩ (.int .i64 z)) base g {s with ins:=s.ins.set k (d,z) } (.slice (some ⟨gv,0,none⟩) L cap) u bl bc∧
  MTo w g (.slice (some ⟨gv,0,none⟩) L cap) u (w.setCell ⟨gv,k*2+1,none⟩ (.int .i64 z)) (.slice (some ⟨gv,0,none⟩) L cap) u:=by
 have bS:=h.ins.set (i:=k) (x:=(d,n)) (y:=(d,z)) (j:=1) (u:=.int .i64 z) hk (by decide) rfl;have hoS:Only [gv] w (w.setCell ⟨gv,k*2+1,none⟩ (.int .i64 z)):=oc;have hvg:gv≠g:=fun e=>h.vg (by rw [← e];rfl);obtain ⟨n1,a1,m1⟩:=h.lmap;obtain ⟨n2,a2,m2⟩:=h.cmap
 exact ⟨⟨hoS.heap h.row (by simpa using fun e=>hvg e.symm),h.gb,bS,h.lps.kept hoS (fun q hq e=>by rw [List.mem_singleton.1 hq] at e;exact h.vu (k:=gv) rfl e),⟨n1,a1,m1.kept hoS (by simpa using h.lv (k:=gv) rfl)⟩,⟨n2,a2,m2.kept hoS (by simpa using h.cv (k:=gv) rfl)⟩⟩,
  ⟨hoS.mono (by simp [Value.ownBlock]),fun _ h=>.inl h,fun _ h=>.inl h⟩⟩
theorem land_any (h:MK w base g s v u bl bc) (k:Nat) {d n:Int} (hk:s.ins[k]?=some (d,n)) (hf:s.ins.length≤400000) :
  Calls Tryz.prog 105 #[.pointer (some ⟨g,0,none⟩),.int .i64 (k:Int)] w fun e w'=>e=.returned (.tuple #[])∧MK w' base g {s with ins:=s.ins.set k (d,(s.ins.length:Int)) } v u bl bc∧MTo w g v u w' v u:=by
 have hkl:k < s.ins.length:=(List.getElem?_eq_some_iff.1 hk).1;obtain ⟨gv,cap,rfl,-,-,-,-⟩:=h.ins.at_ hk;obtain ⟨L,hL⟩:∃ L,L=s.ins.length:=⟨_,rfl⟩
 rw [← hL] at h hkl hf⊢;have HH:=Hd h;have HKK:=Hd hk;have hlt:(k:Int) < (L:Int):=by omega
 have k0:(0:Int)≤(k:Int):=by omega
 clear h hk hL
 go_enter Tryz.func105,Tryz.ntmps105
 go_upto_region 0 with (fail)
 have oD:Only [] w w.drew:=(Only.refl [] w).drew;refine wp_region_held_drew (S:=fun w'=>w'.cell? ⟨g,2,none⟩=some (.slice (some ⟨gv,0,none⟩) L cap)) (by kernel_rfl) (HH.out.quiet oD).c2 (fun hH=>?_);have HD:=Hd (HH.out.quiet oD);have HOD:=Hd oD;clear oD;generalize w.drew=wd at HD HOD hH⊢;refine tk 0 hH ?_;refine tk 1 hH ?_;refine tk 2 hH ?_;refine tk 3 hH ?_;refine tk 4 hH ?_;refine tk 5 hH ?_;refine tk 6 hH ?_;refine tk 7 hH ?_;refine tk 8 hH ?_;refine tk 9 hH ?_;refine tk 10 hH ?_;refine tk 11 hH ?_;refine tk 12 hH ?_;refine tk 13 hH ?_;obtain ⟨r1,r2⟩:=HD.out.landed HKK.out (L:Int);have R1:=Hd r1;have R2:=Hd (MTo.before HOD.out r2);obtain ⟨gv',cap',e0,-,-,hcell,hfree⟩:=HD.out.ins.at_ HKK.out;have z1:wd.cell? ⟨gv,k*2+1,none⟩=some (.int .i64 n):=by
  injection e0 with e1 _ _
  injection e1 with e1
  injection e1 with e1 _ _
  subst e1;exact hcell 1 _ rfl
 have f1:wd.frozen? ⟨gv,k*2+1,none⟩=false:=by
  injection e0 with e1 _ _
  injection e1 with e1
  injection e1 with e1 _ _
  subst e1;exact hfree _
 clear r1 r2 e0 hcell hfree;refine rd 14 (fun K hK=>?_);go_simp;refine hK.out _ _ R1.out.c2 (fun hH=>?_);clear hK K;refine wpAnyH_done (by kernel_rfl) ?_ _;clear hH;go_wp2_with fail
 go_end0;exact ⟨rfl,R1.out,R2.out⟩
end
theorem iG (s:ByteArray) (w:World) (hs:s.data.toList∈oX):Calls Tryz.prog 68 #[.string s] w fun e w'=>e=.returned (.int .i64 (opN s.data.toList))∧w=w':=by
 simp only [oX,List.mem_cons,List.not_mem_nil,or_false] at hs;rcases hs with h | h | h | h | h | h | h | h | h | h | h | h | h<;>obtain rfl:=bk.2 h<;>clear h<;>
 ·go_enter Tryz.func68,Tryz.ntmps68
  go_wp2_with fail
  go_ret;exact ⟨rfl,rfl⟩
mutual
def t8:E→Bool | .mk k _ _ xs _=>decide (k=3) || de xs
def de:List E→Bool | []=>false | x :: xs=>t8 x || de xs
end
mutual
def fmE:E→Bool | .mk k _ nm xs _=>(if k=2 then rA nm else true) && fmL xs
def fmL:List E→Bool | []=>true | x :: xs=>fmE x && fmL xs
end
mutual
theorem jL:∀ e:E,wE e→mg e=(!t8 e && fmE e)
 | .mk k n nm xs p,h=>by
  unfold wE at h;have ih:=lk xs h.2.2;unfold mg t8 fmE
  by_cases h3:k=3
  ·rw [if_pos h3,decide_eq_true h3];simp
  ·rw [if_neg h3,decide_eq_false h3]
   by_cases h2:k=2
   ·have hx:xs=[]:=by
     have:=h.1;unfold isE at this;exact List.eq_nil_of_length_eq_zero (by omega)
    subst hx;rw [if_pos h2,if_pos h2];unfold de fmL;simp
   ·rw [if_neg h2,if_neg h2,ih];simp
theorem lk:∀ xs:List E,wL xs→fixL xs=(!de xs && fmL xs)
 | [],_=>by unfold fixL de fmL;rfl
 | x :: xs,h=>by
  unfold wL at h;unfold fixL de fmL;rw [jL x h.1,lk xs h.2];cases t8 x<;>cases de xs<;>cases fmE x<;>rfl
end
theorem rB:∀ {xs:List E} {j:Nat} {e:E},de (xs.take j)=false→xs[j]?=some e→de (xs.take (j+1))=t8 e
 | [],j,e,_,h=>by simp at h
 | x :: xs,0,e,h,hj=>by
  simp at hj;subst hj;show de [x]=t8 x;unfold de;unfold de;simp
 | x :: xs,j+1,e,h,hj=>by
  rw [List.take_succ_cons] at h⊢;unfold de at h⊢;rw [Bool.or_eq_false_iff] at h;rw [h.1,rB h.2 (by simpa using hj)];rfl
theorem rC:∀ {xs:List E} {j:Nat} {e:E},xs[j]?=some e→t8 e=true→de xs=true
 | [],j,e,h,_=>by simp at h
 | x :: xs,0,e,h,he=>by
  simp at h;subst h;unfold de;rw [he];rfl
 | x :: xs,j+1,e,h,he=>by
  unfold de;rw [rC (xs:=xs) (j:=j) (by simpa using h) he];simp
theorem fmL_at:∀ {xs:List E} {j:Nat} {e:E},fmL (xs.take j)=true→xs[j]?=some e→fmL (xs.take (j+1))=fmE e
 | [],j,e,_,h=>by simp at h
 | x :: xs,0,e,h,hj=>by
  simp at hj;subst hj;show fmL [x]=fmE x;unfold fmL;unfold fmL;simp
 | x :: xs,j+1,e,h,hj=>by
  rw [List.take_succ_cons] at h⊢;unfold fmL at h⊢;rw [Bool.and_eq_true] at h;rw [h.1,fmL_at h.2 (by simpa using hj)];rfl
theorem fmL_of:∀ {xs:List E} {j:Nat} {e:E},xs[j]?=some e→fmE e=false→fmL xs=false
 | [],j,e,h,_=>by simp at h
 | x :: xs,0,e,h,he=>by
  simp at h;subst h;unfold fmL;rw [he];rfl
 | x :: xs,j+1,e,h,he=>by
  unfold fmL;rw [fmL_of (xs:=xs) (j:=j) (by simpa using h) he];simp
theorem eV (F:Nv):cM F []=[]:=by unfold cM;rfl
theorem jM (F:Nv) (x:E) (xs:List E):cM F (x :: xs)=gx F x++cM F xs:=by conv=>lhs;unfold cM
theorem mh (F:Nv) (h:Nat) (lp:List Lp):cB F [] h lp=([],lp):=by unfold cB;rfl
theorem eD (F:Nv) (x:St) (xs:List St) (h:Nat) (lp:List Lp):cB F (x :: xs) h lp=((mE F x h lp).1++(cB F xs (h+(mE F x h lp).1.length) (mE F x h lp).2).1,(cB F xs (h+(mE F x h lp).1.length) (mE F x h lp).2).2):=by conv=>lhs;unfold cB
theorem jN (F:Nv):∀ (a b:List E),cM F (a++b)=cM F a++cM F b
 | [],b=>by rw [eV];rfl
 | x :: a,b=>by rw [List.cons_append,jM,jM,jN F a b,List.append_assoc]
theorem nH (F:Nv) {xs:List E} {j:Nat} {e:E} (h:xs[j]?=some e):cM F (xs.take (j+1))=cM F (xs.take j)++gx F e:=by
 rw [List.take_add_one,h,Option.toList_some,jN,jM,eV,List.append_nil]
theorem jO (F:Nv):∀ (a b:List St) (h:Nat) (lp:List Lp),cB F (a++b) h lp=((cB F a h lp).1++(cB F b (h+(cB F a h lp).1.length) (cB F a h lp).2).1,(cB F b (h+(cB F a h lp).1.length) (cB F a h lp).2).2)
 | [],b,h,lp=>by rw [mh];simp
 | x :: a,b,h,lp=>by
  rw [List.cons_append,eD,eD,jO F a b];dsimp only;rw [List.append_assoc,List.length_append,Nat.add_assoc]
theorem ww (F:Nv) {xs:List St} {j:Nat} {x:St} (hx:xs[j]?=some x) (h:Nat) (lp:List Lp) :
  cB F (xs.take (j+1)) h lp=((cB F (xs.take j) h lp).1++(mE F x (h+(cB F (xs.take j) h lp).1.length) (cB F (xs.take j) h lp).2).1,(mE F x (h+(cB F (xs.take j) h lp).1.length) (cB F (xs.take j) h lp).2).2):=by
 rw [List.take_add_one,hx,Option.toList_some,jO,eD,mh];simp
mutual
theorem gz (F:Nv):∀ e:E,(gx F e).length≤aC e
 | .mk k n nm xs p=>by
  have ih:=dX F xs;unfold gx aC;split
  ·simp
  ·split
   ·simp
   ·rw [List.length_append,List.length_singleton];omega
theorem dX (F:Nv):∀ xs:List E,(cM F xs).length≤aq xs
 | []=>by unfold cM;simp
 | x :: xs=>by
  have h1:=gz F x;have h2:=dX F xs;unfold cM;rw [List.length_append,aE];omega
end
mutual
theorem genS_len (F:Nv):∀ (x:St) (h:Nat) (lp:List Lp),(mE F x h lp).1.length≤10*bn x∧(mE F x h lp).2.length≤lp.length+bn x
 | .mk k nm xs n bd els p,h,lp=>by
  have h1:=dX F xs;have hb:=fun h lp=>cF F bd h lp;have he:=fun h lp=>cF F els h lp;unfold mE bn;split
  ·simp only [List.length_append,List.length_cons,List.length_nil];omega
  ·split
   ·dsimp only;have b1:=hb (h+(cM F xs).length+1) lp;split
    ·simp only [List.length_append,List.length_cons,List.length_nil];omega
    ·have e1:=he (h+(cM F xs).length+1+(cB F bd (h+(cM F xs).length+1) lp).1.length+1) (cB F bd (h+(cM F xs).length+1) lp).2;simp only [List.length_append,List.length_cons,List.length_nil];omega
   ·split
    ·split
     ·simp;omega
     ·have b1:=hb (h+2) lp;simp only [List.length_append,List.length_cons,List.length_nil];omega
    ·split
     ·split
      ·simp;omega
      ·have b1:=hb (h+6) lp;simp only [List.length_append,List.length_cons,List.length_nil];omega
     ·(repeat' split)<;>simp only [List.length_append,List.length_cons,List.length_nil]<;>omega
theorem cF (F:Nv):∀ (xs:List St) (h:Nat) (lp:List Lp),(cB F xs h lp).1.length≤10*ah xs∧(cB F xs h lp).2.length≤lp.length+ah xs
 | [],h,lp=>by unfold cB;simp
 | x :: xs,h,lp=>by
  have h1:=genS_len F x h lp;unfold cB ah;dsimp only;have h2:=cF F xs (h+(mE F x h lp).1.length) (mE F x h lp).2;rw [List.length_append];omega
end
theorem wC:∀ (l:List Sec) (nm:Sec) (i:Nat),nm∈l→idxF l nm i < i+l.length
 | [],_,_,h=>by simp at h
 | x :: xs,nm,i,h=>by
  unfold idxF
  by_cases e:x=nm
  ·rw [if_pos e,List.length_cons];omega
  ·rw [if_neg e,List.length_cons]
   have:=wC xs nm (i+1) (by
    rcases List.mem_cons.1 h with h | h
    ·exact absurd h.symm e
    ·exact h)
   omega
theorem idxN_lt {l:List Sec} {nm:Sec} (h:nm∈l):xX l nm < l.length:=by
 have:=wC l nm 0 h;unfold xX;omega
theorem qk:∀ (l:List Dc) (i k:Nat) (p:Int),k < i→tZ l i k p < i+l.length
 | [],i,k,p,h=>by unfold tZ;simpa using h
 | x :: xs,i,k,p,h=>by
  unfold tZ;rw [List.length_cons];split
  ·have:=qk xs (i+1) i x.2.1 (by omega);omega
  ·have:=qk xs (i+1) k p (by omega);omega
theorem wD {l:List Dc} (h:l≠[]):minK l < l.length:=by
 cases l with
 | nil=>exact absurd rfl h
 | cons x xs=>
  show tZ xs 1 0 x.2.1 < (x :: xs).length;have:=qk xs 1 0 x.2.1 (by omega);rw [List.length_cons];omega
theorem take_out {α:Type} {l:List α} {k:Nat} (h:k < l.length):(l[k] :: l.eraseIdx k).Perm l:=by
 have e:l=l.take k++l[k] :: l.drop (k+1):=by rw [← List.drop_eq_getElem_cons h,List.take_append_drop]
 rw [List.eraseIdx_eq_take_drop_succ]
 conv=>rhs;rw [e]
 exact List.perm_middle.symm
theorem ip:∀ (f:Nat) (l:List Dc),l.length≤f→(tl f l).Perm l
 | 0,l,h=>by
  obtain rfl:l=[]:=List.eq_nil_of_length_eq_zero (by omega);exact List.Perm.refl _
 | f+1,l,h=>by
  unfold tl
  by_cases hl:l=[]
  ·subst hl;exact List.Perm.refl _
  ·have hlt:=wD hl;rw [List.getElem?_eq_getElem hlt];have:=ip f (l.eraseIdx (minK l)) (by rw [List.length_eraseIdx_of_lt hlt];omega);exact (List.Perm.cons _ this).trans (take_out hlt)
theorem cN (l:List Dc):(iS l).Perm l:=ip _ l (Nat.le_refl _)
def Inc:List Dc→Prop | []=>True | x :: xs=>(∀ y∈xs,x.2.1 < y.2.1)∧Inc xs
def OkI (t locs:Nat) (q:Nat) (lps:List Lp) (i:Nat) (x:Ins):Prop:=
 ((x.1=12∨x.1=13)→(i:Int) < x.2∧x.2≤(t:Int))∧((x.1=2∨x.1=3)→0≤x.2∧x.2 < (locs:Int))∧
 (x.1=14→∃ n:Nat,x.2=(n:Int)∧q≤n∧∃ l,lps[n]?=some l∧l.lst=(i:Int)∧l.fr≤(i:Int))
def OkC (h t locs q:Nat) (lps:List Lp) (c:List Ins):Prop:=∀ i x,c[i]?=some x→OkI t locs q lps (h+i) x
theorem OkC.nil (h t locs q:Nat) (lps:List Lp):OkC h t locs q lps []:=fun i x hx=>by simp at hx
theorem OkC.app {h t locs q:Nat} {lps:List Lp} {a b:List Ins} (ha:OkC h t locs q lps a) (hb:OkC (h+a.length) t locs q lps b):OkC h t locs q lps (a++b):=fun i x hx=>by
 rcases Nat.lt_or_ge i a.length with hi | hi
 ·rw [List.getElem?_append_left hi] at hx;exact ha i x hx
 ·rw [List.getElem?_append_right hi] at hx;have:=hb _ x hx;rw [show h+a.length+(i - a.length)=h+i by omega] at this;exact this
theorem OkC.one {h t locs q:Nat} {lps:List Lp} {x:Ins} (hx:OkI t locs q lps h x):OkC h t locs q lps [x]:=fun i y hy=>by
 cases i with
 | zero=>simp at hy;subst hy;exact hx
 | succ i=>simp at hy
theorem OkI.plain {t locs q:Nat} {lps:List Lp} {i:Nat} {x:Ins} (h1:x.1≠12∧x.1≠13) (h2:x.1≠2∧x.1≠3) (h3:x.1≠14):OkI t locs q lps i x:=⟨fun e=>by omega,fun e=>by omega,fun e=>absurd e h3⟩
theorem OkI.loc {t locs q:Nat} {lps:List Lp} {i:Nat} {x:Ins} (h1:x.1=2∨x.1=3) (h2:0≤x.2) (h3:x.2 < (locs:Int)):OkI t locs q lps i x:=⟨fun e=>by omega,fun _=>⟨h2,h3⟩,fun e=>by omega⟩
theorem OkI.jump {t locs q:Nat} {lps:List Lp} {i:Nat} {x:Ins} (h1:x.1=12∨x.1=13) (h2:(i:Int) < x.2) (h3:x.2≤(t:Int)):OkI t locs q lps i x:=⟨fun _=>⟨h2,h3⟩,fun e=>by omega,fun e=>by omega⟩
mutual
def inE (L:List Sec):E→Prop | .mk k _ nm xs _=>(k=2→rA nm=false→nm∈L)∧jP L xs
def jP (L:List Sec):List E→Prop | []=>True | x :: xs=>inE L x∧jP L xs
end
mutual
def inSt (L A C:List Sec):St→Prop | .mk k nm xs _ bd els _=>(k=1∨k=7∨k=8→nm∈L)∧(k=7→nm∈A)∧(k=8→nm∈C)∧jP L xs∧xY L A C bd∧xY L A C els
def xY (L A C:List Sec):List St→Prop | []=>True | x :: xs=>inSt L A C x∧xY L A C xs
end
section
variable {L A C:List Sec} {locs:Nat} {F:Nv}
def OkG (locs:Nat) (h:Nat) (lp:List Lp) (r:List Ins×List Lp):Prop:=OkC h (h+r.1.length) locs lp.length r.2 r.1∧∃ N,r.2=lp++N
theorem OkG.plain {h:Nat} {lp:List Lp} {c:List Ins} (hc:∀ t q lps,OkC h t locs q lps c):OkG locs h lp (c,lp):=⟨hc _ _ _,[],by simp⟩
theorem OkG.tail {h:Nat} {lp:List Lp} {c:List Ins} {x:Ins} (hc:∀ t q lps,OkC h t locs q lps c) (hx:∀ t q lps i,OkI t locs q lps i x):OkG locs h lp (c++[x],lp):=OkG.plain fun t q lps=>OkC.app (hc t q lps) (OkC.one (hx t q lps _))
end
def nJ (L:List Sec) (env:Env):Prop:=∀ z,(bO env z).isSome=true→z∈L
section
variable {L A C:List Sec}
section
variable {env:Env} (hE:nJ L env)
include hE
mutual
theorem ql:∀ (e:E) (r:RS),(bq r e env).2.code=0→inE L e
 | .mk k n nm xs p,r,h=>by
  unfold bq at h;have ha:(cw r k nm xs env []).code=0:=aW (fun x hx=>hx.type k nm p env) h;unfold inE;refine ⟨fun hk ht=>?_,wF xs r k nm [] ha⟩;unfold l7 at h;rw [if_pos hk] at h;have h1:¬ (nm=[116,114,117,101]∨nm=[102,97,108,115,101]):=fun e=>by
   unfold rA at ht;rcases e with e | e<;>simp [e] at ht
  rw [if_neg h1] at h;cases hl:bO env nm with
  | none=>rw [hl] at h;exact absurd h (il (by decide))
  | some t=>exact hE nm (by rw [hl];rfl)
theorem wF:∀ (xs:List E) (r:RS) (k:Int) (nm:Sec) (ts:List Int),(cw r k nm xs env ts).code=0→jP L xs
 | [],r,k,nm,ts,h=>by unfold jP;trivial
 | e :: es,r,k,nm,ts,h=>by
  unfold cw at h;obtain ⟨h1,h2⟩:=ws (wj h);rw [if_neg h1] at h;unfold jP;exact ⟨ql e r h2,wF es _ k nm _ h⟩
end
theorem mi {e:E} {want:Int} {r:RS} (h:(bR r e want env).code=0):inE L e:=by
 unfold bR at h;exact ql hE e r (ws h).2
end
theorem mj {e:E} (h:inE L e):jP L [e]:=by unfold jP;exact ⟨h,by unfold jP;trivial⟩
theorem inLs_two {e f:E} (h:inE L e) (h2:inE L f):jP L [e,f]:=by unfold jP;exact ⟨h,mj h2⟩
theorem eW:xY L A C []:=by unfold xY;trivial
mutual
theorem stmt_in:∀ (x:St) (r:RS) (env:Env),wS x→pS x→(cD r x env).1.code=0→nJ L env→(∀ y∈cy x,y.1∈L∧(y.2.2=7→y.1∈A)∧(y.2.2=8→y.1∈C))→inSt L A C x∧nJ L (cD r x env).2
 | .mk k nm xs n bd els p,r,env,hw,hp,h0,hE,hD=>by
  unfold wS at hw;unfold pS at hp;obtain ⟨hi,-,hx,hb,he⟩:=hw;obtain ⟨p1,p2,p3,p4⟩:=hp;unfold cy at hD;rcases nC hi with ⟨x,rfl,rfl⟩ | ⟨x,rfl,rfl⟩ | ⟨x,y,rfl,hk⟩ | ⟨rfl,hn,hk⟩
  ·obtain rfl:=p1 (by decide);obtain rfl:=p2 (by decide);rw [nz] at h0⊢;obtain ⟨d1,-,-⟩:=bB h0;have hm:nm∈L:=(hD (nm,p,1) (by simp)).1;refine ⟨by unfold inSt;exact ⟨fun _=>hm,fun e=>by omega,fun e=>by omega,mj (ql hE x r d1),eW,eW⟩,fun z hz=>?_⟩;rcases eT hz with h1 | h1
   ·exact hE z h1
   ·rw [h1];exact hm
  ·rw [ru] at h0⊢;have c1:(aV (bR r x 2 env) bd env).1.code=0:=aW (fun y hy=>RS.bad.block els _ y env hy) h0;have c2:(bR r x 2 env).code=0:=aW (fun y hy=>RS.bad.block bd _ y env hy) c1;rw [if_neg (by omega),List.nil_append] at hD;refine ⟨?_,hE⟩;unfold inSt;exact ⟨fun e=>by omega,fun e=>by omega,fun e=>by omega,mj (mi hE c2),(gA bd _ env hb p3 c1 hE (fun y hy=>hD y (List.mem_append.2 (.inl hy)))).1,(gA els _ env he p4 h0 hE (fun y hy=>hD y (List.mem_append.2 (.inr hy)))).1⟩
  ·obtain rfl:=p1 (by omega);obtain rfl:=p2 (by omega);rw [nA hk] at h0⊢;have c1:(bR r x 1 env).code=0:=aW (fun z hz=>hz.need y 1 env) h0;refine ⟨?_,hE⟩;unfold inSt;exact ⟨fun e=>by omega,fun e=>by omega,fun e=>by omega,inLs_two (mi hE c1) (mi hE h0),eW,eW⟩
  ·obtain rfl:=p1 (by omega);rw [lj hk] at h0⊢;obtain ⟨h64,c1,e1⟩:=nF h0;rw [e1] at h0;rw [if_pos (by omega)] at hD;have hm:=hD (nm,p,k) (by simp);have hE2:nJ L (env++[(nm,1)]):=fun z hz=>by
    rcases eT hz with h1 | h1
    ·exact hE z h1
    ·rw [h1];exact hm.1
   refine ⟨?_,hE⟩;unfold inSt;exact ⟨fun _=>hm.1,hm.2.1,hm.2.2,by unfold jP;trivial,(gA bd _ _ hb p3 h0 hE2 (fun y hy=>hD y (by simp [hy]))).1,eW⟩
theorem gA:∀ (xs:List St) (r:RS) (env:Env),wB xs→pB xs→(aV r xs env).1.code=0→nJ L env→(∀ y∈aA xs,y.1∈L∧(y.2.2=7→y.1∈A)∧(y.2.2=8→y.1∈C))→xY L A C xs∧nJ L (aV r xs env).2
 | [],r,env,_,_,_,hE,_=>by unfold aV;exact ⟨eW,hE⟩
 | x :: xs,r,env,hw,hp,h0,hE,hD=>by
  unfold wB at hw;unfold pB at hp;unfold aA at hD;have e:aV r (x :: xs) env=aV (cD r x env).1 xs (cD r x env).2:=by conv=>lhs;unfold aV
  rw [e] at h0⊢;have c1:(cD r x env).1.code=0:=aW (fun y hy=>RS.bad.block xs _ y _ hy) h0;obtain ⟨a1,a2⟩:=stmt_in x r env hw.1 hp.1 c1 hE (fun y hy=>hD y (List.mem_append.2 (.inl hy)));obtain ⟨b1,b2⟩:=gA xs _ _ hw.2 hp.2 h0 a2 (fun y hy=>hD y (List.mem_append.2 (.inr hy)));exact ⟨by unfold xY;exact ⟨a1,b1⟩,b2⟩
end
theorem ml {env:Env} (hE:nJ L env) {want:Int}:∀ (xs:List E) (r:RS),(gn want env r xs).code=0→jP L xs
 | [],_,_=>by unfold jP;trivial
 | x :: xs,r,h=>by
  unfold gn at h;unfold jP;exact ⟨mi hE (dV _ _ h),ml hE xs _ h⟩
end
theorem ll:∀ (l:List Sec) (z:Sec),(bO (qf l) z).isSome=true→z∈l
 | [],z,hz=>by simp [qf,bO] at hz
 | x :: l,z,hz=>by
  have e:qf (x :: l)=(x,1) :: qf l:=rfl;rw [e,dK] at hz
  by_cases h:x=z
  ·rw [h];simp
  ·rw [if_neg h] at hz;exact List.mem_cons_of_mem _ (ll l z hz)
theorem code_in {d:Df} (hw:Whole d) (hp:pB d.body) (h:(opS CS.new d).flt=none):jP (eU d) d.needs∧xY (eU d) (io 7 d) (io 8 d) d.body∧jP (eU d) d.give:=by
 have hc:=rz hw h;have h1:=(l9 h).1;have hg:=(lb hw (fq h1)).good h1;have hE:nJ (eU d) (qf d.params):=fun z hz=>List.mem_append.2 (.inl (ll _ z hz));have hD:∀ y∈aA d.body,y.1∈eU d∧(y.2.2=7→y.1∈io 7 d)∧(y.2.2=8→y.1∈io 8 d):=fun y hy=>by
  have hm:=(cN (aA d.body)).mem_iff.2 hy;refine ⟨List.mem_append.2 (.inr (List.mem_map.2 ⟨y,hm,rfl⟩)),fun e=>?_,fun e=>?_⟩<;>exact List.mem_map.2 ⟨y,List.mem_filter.2 ⟨hm,by simpa using e⟩,rfl⟩
 obtain ⟨b1,b2⟩:=gA d.body (refN d) (qf d.params) hw.body hp hc.code hE hD;exact ⟨ml hE d.needs _ hc.needs,b1,ml b2 d.give _ hg.1⟩
end Go.Proofs.YtcebchffcmpfeaaGreat
