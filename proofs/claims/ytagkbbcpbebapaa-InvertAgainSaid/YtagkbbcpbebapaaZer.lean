import Derived.Test.YtagkbbcpbebapaaZ10r
import Derived.Test.YtagkbbcpbebapaaK16r
import Derived.Test.YtagkbbcpbebapaaQar
import Derived.Carry
namespace Go.Proofs.Ytagkbbcpbebapaa
open Go.RowKit Go.Maps
set_option linter.unusedSimpArgs false
set_option linter.unusedVariables false
mutual
def nmsS:St→List Sec | .mk _ nm _ _ bd els _=>nm :: (nmsB bd++nmsB els)
def nmsB:List St→List Sec | []=>[] | x :: xs=>nmsS x++nmsB xs
end
mutual
theorem nmsS_len:∀ x:St,(nmsS x).length≤sizeS x
 | .mk k nm xs n bd els p=>by
  unfold nmsS sizeS
  have:=nmsB_len bd
  have:=nmsB_len els
  simp only [List.length_cons,List.length_append]
  omega
theorem nmsB_len:∀ xs:List St,(nmsB xs).length≤sizeSs xs
 | []=>by unfold nmsB sizeSs;simp
 | x :: xs=>by
  unfold nmsB sizeSs
  have:=nmsS_len x
  have:=nmsB_len xs
  simp only [List.length_append]
  omega
end
mutual
theorem inS_of {L:List Sec}:∀ x:St,(∀ z∈nmsS x,z∈L)→inS L x
 | .mk k nm xs n bd els p,h=>by
  unfold nmsS at h
  unfold inS
  refine ⟨fun _=>h nm (by simp),inB_of bd (fun z hz=>h z (by simp [hz])),inB_of els (fun z hz=>h z (by simp [hz]))⟩
theorem inB_of {L:List Sec}:∀ xs:List St,(∀ z∈nmsB xs,z∈L)→inB L xs
 | [],_=>by unfold inB;trivial
 | x :: xs,h=>by
  unfold nmsB at h
  unfold inB
  exact ⟨inS_of x (fun z hz=>h z (by simp [hz])),inB_of xs (fun z hz=>h z (by simp [hz]))⟩
end
def namesD (d:Df):List Sec:=d.params++nmsB d.body
theorem opB_none {d:Df} (h:(opS CS.new d).flt=none):(opB CS.new d).flt=none:=typedC_mono d.give _ _ (opS_none h).1
theorem okB_of {d:Df} (hw:Whole d) (hp:pB d.body) (hg:Good d) (h:(opS CS.new d).flt=none):OkB (namesD d) d.body:=
 ⟨hw.body,hg.body,(stmtsC_few d.body _ hw.body hp (opB_none h)).2,inB_of _ (fun z hz=>List.mem_append_right _ hz)⟩
theorem namesD_len {d:Df} (hw:Whole d):(namesD d).length≤960:=by
 unfold namesD
 rw [List.length_append]
 have:=nmsB_len d.body
 have:=hw.size
 have:=hw.plen
 omega
def mP (ps:List Sec) (av:List Int):Nms:=lastE (ps.zip av)
def runP (d:Df) (n:Int) (c:List Int) (av:List Int):(Int×List Int)×Int×Int:=
 if (opS CS.new d).flt.isSome=true then ((0,blankP),0,13)
 else if av.length≠d.params.length then ((0,blankP),0,2)
 else if (exVs c (mP d.params av) d.needs).any (fun v=>v == 0)=true then ((0,blankP),0,12)
 else ((n,(pgB d.body ⟨c,mP d.params av⟩).c),(exVs (pgB d.body ⟨c,mP d.params av⟩).c (pgB d.body ⟨c,mP d.params av⟩).m d.give).getD 0 0,0)
theorem exVs_length (c:List Int) (m:Nms):∀ xs:List E,(exVs c m xs).length=xs.length
 | []=>by unfold exVs;rfl
 | x :: xs=>by unfold exVs;rw [List.length_cons,exVs_length c m xs,List.length_cons]
theorem exVs_get (c:List Int) (m:Nms):∀ (xs:List E) (j:Nat),(exVs c m xs)[j]?=(xs[j]?).map (exV c m)
 | [],j=>by unfold exVs;simp
 | x :: xs,0=>by unfold exVs;simp
 | x :: xs,j+1=>by unfold exVs;simp only [List.getElem?_cons_succ];exact exVs_get c m xs j
theorem gL_mem:∀ {xs:List E} {j:Nat} {e:E},gL xs→xs[j]?=some e→gE e
 | [],j,e,_,h=>by simp at h
 | x :: xs,0,e,h,hj=>by unfold gL at h;simp at hj;subst hj;exact h.1
 | x :: xs,j+1,e,h,hj=>by unfold gL at h;exact gL_mem h.2 (by simpa using hj)
theorem nw_last:∀ (l:VE),(∀ x∈l,n64 x.2)→NW (lastE l)
 | [],_=>fun z v h=>by cases h
 | x :: l,h=>fun z v hz=>by
  unfold lastE at hz
  cases hl:lastE l z with
  | some u=>
   rw [hl] at hz
   cases hz
   exact nw_last l (fun y hy=>h y (by simp [hy])) z _ hl
  | none=>
   rw [hl] at hz
   dsimp only at hz
   split at hz
   ·cases hz;exact h x (by simp)
   ·cases hz
theorem zip_snoc {ps:List Sec} {av:List Int} {j:Nat} {p:Sec} {a:Int} (hp:ps[j]?=some p) (ha:av[j]?=some a):(ps.zip av).take (j+1)=(ps.zip av).take j++[(p,a)]:=by
 have hz:(ps.zip av)[j]?=some (p,a):=by rw [List.getElem?_zip_eq_some];exact ⟨hp,ha⟩
 obtain ⟨hlt,he⟩:=List.getElem?_eq_some_iff.1 hz
 rw [List.take_add_one,hz]
 rfl
end Go.Proofs.Ytagkbbcpbebapaa
namespace Go.Proofs.Ytagkbbcpbebapaa
open Go.RowKit Go.Maps
set_option linter.unusedSimpArgs false
set_option linter.unusedVariables false
theorem built_run_fn (n:Int) (b:Nat) (f:Fin 60→Int):Try.prog.built 72 [(0,.agg (ivA (n :: List.ofFn f))),(1,.map (some b))]=some (runA n (List.ofFn f) b):=by kernel_rfl
theorem built_run (n:Int) (b:Nat) (c:List Int) (hc:c.length=60):Try.prog.built 72 [(0,.agg (ivA (n :: c))),(1,.map (some b))]=some (runA n c b):=by
 have h:=built_run_fn n b (fun i=>c[i.1]'(by omega))
 have e:(List.ofFn fun i:Fin 60=>c[i.1]'(by omega))=c:=by
  apply List.ext_getElem (by rw [List.length_ofFn,hc])
  intro i h1 h2
  rw [List.getElem_ofFn]
 rw [e] at h
 exact h
def runZ:Array Value:=(iv (0 :: blankP)++[Value.map none]).toArray
theorem info_run:(Try.prog.info? 72).map (fun i=>(i.zero,i.size))=some (some (.agg runZ),62):=by kernel_rfl
theorem zero_run (w:World):(zeroValue 72).run Try.prog w=.ok (.agg runZ) w:=by
 obtain ⟨i,hi,hz⟩:=Option.map_eq_some_iff.1 info_run
 simp only [Prod.mk.injEq] at hz
 simp [zeroValue,typeInfo,hi,hz.1]
theorem runA_size {n:Int} {c:List Int} {b:Nat} (h:c.length=60):(runA n c b).size=62:=by
 unfold runA
 rw [List.size_toArray,List.length_append,iv_length,List.length_cons,h]
 rfl
theorem size_runA {n:Int} {c:List Int} {b:Nat} (h:c.length=60):(Try.prog.info? 72).map (·.size)=some (runA n c b).size:=by
 rw [runA_size h]
 kernel_rfl
theorem runA_one {n:Int} {c:List Int} {b:Nat}:(runA n c b).all (·.oneCell')=true:=by simp [runA,iv,Value.oneCell']
theorem results_page3 {fn:Func} {p q r:Tmp} (h:fn.results=#[.cell p 45,.tmp q,.tmp r]) (tmps:Array Value) (w:World) (g:Nat) (l:List Int) (u v:Value) (hp:tmps.getD p undef=.pointer (some ⟨g,0,none⟩)) (hq:tmps.getD q undef=u) (hr:tmps.getD r undef=v) (hb:PB w g 45 l) (hl:l.length=61) :
  (results fn tmps).run Try.prog w=.ok (.tuple #[.agg (ivA l),u,v]) w:=by
 have hp':tmps[p]?.getD undef=.pointer (some ⟨g,0,none⟩):=by simpa using hp
 have hq':tmps[q]?.getD undef=u:=by simpa using hq
 have hr':tmps[r]?.getD undef=v:=by simpa using hr
 simp [results,h,hp',hq',hr',asAddr,load_page hb hl,Result.andThen]
theorem neq_flt (g:Nat) (w:World):(binOp .neq 31 (.iface 77 (.pointer (some ⟨g,0,none⟩))) .nilIface).run Try.prog w=.ok (.bool true) w:=by kernel_rfl
theorem neq_nil (w:World):(binOp .neq 31 .nilIface .nilIface).run Try.prog w=.ok (.bool false) w:=by kernel_rfl
theorem neq_e2 (w:World):(binOp .neq 31 (err 2) .nilIface).run Try.prog w=.ok (.bool true) w:=by kernel_rfl
set_option maxRecDepth 100000 in
set_option maxHeartbeats 4000000 in
theorem ccalls_any (m n:Nat) (w:World) (a:Option Addr) (c:Nat) (a2:Option Addr) (c2:Nat) (s:ByteArray) (a3 a4 a5:Option Addr) (l3 l4 l5 c3 c4 c5:Nat) :
  Calls Try.prog 28 #[.agg #[.string s,.slice a m c,.slice a3 l3 c3,.slice a4 l4 c4,.slice a5 l5 c5],.slice a2 n c2] w fun e w'=>e=.returned (if n=m then .nilIface else err 2)∧Only [] w w':=by
 by_cases h:n=m
 ·have h':((n:Int) != (m:Int))=false:=by simp [h]
  rw [if_pos h]
  clear h
  go_enter Try.func28,Try.ntmps28
  go_wp2_with fail
  go_ret
  exact ⟨rfl,(Only.refl [] w).alloc _⟩
 ·have h':((n:Int) != (m:Int))=true:=by simp;omega
  rw [if_neg h]
  clear h
  go_enter Try.func28,Try.ntmps28
  go_wp2_with fail
  go_ret
  exact ⟨rfl,(Only.refl [] w).alloc _⟩
def errV (k:Int):Value:=if k=0 then .nilIface else err k
def RunPost (w:World) (r:(Int×List Int)×Int×Int) (e:Ending) (w':World):Prop:=e=.returned (.tuple #[.agg (ivA (r.1.1 :: r.1.2)),.int .i64 r.2.1,errV r.2.2])∧Only [] w w'
section
variable {w:World} {ops:Array Oper} {rest:List Oper} {o:Oper} {a:Act} {Q:Exit→Act→World→Prop}
theorem wpList_new_run (hg:o.guard=none) (hop:o.op=.alloc 72)
  (h:wpList Try.prog ops Q rest (a.put o.dst (.pointer (some ⟨w.heap.size,0,none⟩))) (w.alloc (.cells runZ 72))):wpList Try.prog ops Q (o :: rest) a w:=
 wpList_alloc_row hg _ hop _ zero_run h
theorem wpList_built_run (hg:o.guard=none) (x y:Operand) (ho:o.op=.build 72 #[(0,x),(1,y)]) (n:Int) (c:List Int) (b:Nat) (hc:c.length=60) (hx:a.eval x=.agg (ivA (n :: c))) (hy:a.eval y=.map (some b))
  (h:wpList Try.prog ops Q rest (a.put o.dst (.agg (runA n c b))) w):wpList Try.prog ops Q (o :: rest) a w:=by
 have e:((#[(0,x),(1,y)]:Array (Nat×Operand)).map fun (i,x)=>(i,a.eval x)).toList=[(0,.agg (ivA (n :: c))),(1,.map (some b))]:=by simp [hx,hy]
 refine wpList_build hg _ _ ho (by rw [e,built_run n b c hc];rfl) ?_
 rw [e,built_run n b c hc]
 exact h
theorem wpList_store_run (hgd:o.guard=none) (x y:Operand) (ho:o.op=.store 72 x y) (g:Nat) (n:Int) (c:List Int) (b:Nat) (hc:c.length=60) (hx:a.eval x=.pointer (some ⟨g,0,none⟩)) (hy:a.eval y=.agg (runA n c b)) (hb:w.heap[g]?=some (.cells runZ 72 (0,0)))
  (h:∀ w',w'.heap[g]?=some (.cells (runA n c b) 72 (0,0))→Only [g] w w'→wpList Try.prog ops Q rest (a.put o.dst undef) w'):wpList Try.prog ops Q (o :: rest) a w:=
 Go.Proofs.Ytagkbbcpbebapaa.wpList_store_row hgd _ x y ho g _ hx hy _ _ hb (size_runA hc) (by rw [runA_size hc];rfl) runA_one (h _ (heap_row _ hb) ((Only.refl [g] w).setRow (.inl (by simp)) _))
end
end Go.Proofs.Ytagkbbcpbebapaa
namespace Go.Proofs.Ytagkbbcpbebapaa
open Go.RowKit Go.Maps
set_option linter.unusedSimpArgs false
set_option linter.unusedVariables false
theorem DV.parts {w:World} {B:Nat→Prop} {d:Df} {u v1 v2 v3 v4:Value} (h:DV w B d [u,v1,v2,v3,v4]):NmV w B v1 d.params∧EsV w B v2 d.needs∧SsV w B v3 d.body∧EsV w B v4 d.give:=by
 obtain ⟨x1,x2,x3,x4,e,h1,h2,h3,h4⟩:=h
 cases e
 exact ⟨h1,h2,h3,h4⟩
theorem NmV.nth {w:World} {B:Nat→Prop} {a:Option Addr} {n c j:Nat} {l:List Sec} {s:Sec} (h:NmV w B (.slice a n c) l) (hj:l[j]?=some s):∃ g,a=some ⟨g,0,none⟩∧B g∧w.cell? ⟨g,j,none⟩=some (.string (strOf s)):=by
 obtain ⟨a',cap,e,-,hx⟩:=h
 cases e
 rcases hx with hx | ⟨g,h1,h2,h3⟩
 ·rw [hx] at hj;simp at hj
 ·exact ⟨g,h1,h2,h3 j s hj⟩
theorem EsV.nth {w:World} {B:Nat→Prop} {a:Option Addr} {n c j:Nat} {l:List E} {s:E} (h:EsV w B (.slice a n c) l) (hj:l[j]?=some s):∃ g,a=some ⟨g,0,none⟩∧B g∧EsO w B g 0 l:=by
 obtain ⟨a',cap,e,-,hx⟩:=h
 cases e
 rcases hx with hx | ⟨g,h1,h2,h3⟩
 ·rw [hx] at hj;simp at hj
 ·exact ⟨g,h1,h2,EsAt.eso l 0 0 rfl h3⟩
theorem IntsV.nth {w:World} {a:Option Addr} {n c j:Nat} {l:List Int} {z:Int} (h:IntsV w (.slice a n c) l) (hj:l[j]?=some z):n64 z∧∃ b off,a=some ⟨b,off,none⟩∧b < w.heap.size∧w.cell? ⟨b,off+j,none⟩=some (.int .i64 z):=by
 obtain ⟨a',cap,e,hx⟩:=h
 cases e
 obtain ⟨haw,b,off,h1,h2⟩:=hx j z hj
 refine ⟨?_,b,off,h1,World.block_lt_of_cell? _ _ h2,h2⟩
 simp only [Lit.wf,Bool.and_eq_true,decide_eq_true_eq] at haw
 exact haw
theorem sizeL_ge:∀ xs:List E,xs.length≤sizeL xs
 | []=>by simp
 | x :: xs=>by
  have:=sizeL_ge xs
  have h1:1≤sizeE x:=by cases x;unfold sizeE;omega
  rw [sizeL_cons,List.length_cons]
  omega
theorem miss_len:∀ (L:List Sec) (m:Nms),miss L m≤L.length
 | [],_=>Nat.le_refl _
 | z :: l,m=>by
  have:=miss_len l m
  unfold miss
  rw [List.length_cons]
  split<;>omega
set_option maxRecDepth 100000 in
set_option maxHeartbeats 16000000 in
theorem run_any {w:World} {B:Nat→Prop} {d:Df} {cs:List Value} {n:Int} {c l:List Int} {v:Value} (hd:DV w B d cs) (hw:Whole d) (hp:pB d.body) (hg:Good d) (hc:CW c) (hv:IntsV w v l) (hl:l.length≤maxLen) :
    Calls Try.prog 16 #[.agg cs.toArray,.agg (ivA (n :: c)),v] w (RunPost w (runP d n c l)):=by
  obtain ⟨v1,v2,v3,v4,rfl,hv1,hv2,hv3,hv4⟩:=id hd
  obtain ⟨a1,c1,rfl,-⟩:=hv1
  obtain ⟨a2,c2,rfl,-⟩:=hv2
  obtain ⟨a3,c3,rfl,-⟩:=hv3
  obtain ⟨a4,c4,rfl,-⟩:=hv4
  obtain ⟨a0,c0,rfl,-⟩:=id hv
  have HV:=Hd hv
  have HD:=Hd hd.lt
  have HC:=Hd hc
  obtain ⟨R,hR⟩:∃ R,R=runP d n c l:=⟨_,rfl⟩
  rw [← hR]
  unfold runP at hR
  have HR:=Hd hR
  obtain ⟨sn,hsn⟩:∃ sn,sn=strOf d.name:=⟨_,rfl⟩
  obtain ⟨L0,hL0⟩:∃ L,L=l.length:=⟨_,rfl⟩
  obtain ⟨L1,hL1⟩:∃ L,L=d.params.length:=⟨_,rfl⟩
  obtain ⟨L2,hL2⟩:∃ L,L=d.needs.length:=⟨_,rfl⟩
  obtain ⟨L3,hL3⟩:∃ L,L=d.body.length:=⟨_,rfl⟩
  obtain ⟨L4,hL4⟩:∃ L,L=d.give.length:=⟨_,rfl⟩
  rw [← hsn,← hL1,← hL2,← hL3,← hL4] at HD
  rw [← hsn,← hL0,← hL1,← hL2,← hL3,← hL4]
  have HPT:=Hd HD.out.parts
  have HL0:=Hd hL0
  have HL1:=Hd hL1
  have HL2:=Hd hL2
  have HL4:=Hd hL4
  have HWH:=Hd hw
  have HP:=Hd hp
  have HG:=Hd hg
  have h60:=hc.len
  rw [← hL0] at hl
  unfold maxLen at hl
  have H60:=Hd h60
  have H61:=Hd (show (n :: c).length=61 by rw [List.length_cons,h60])
  clear hd hv hc hw hp hg hR hsn hL0 hL1 hL2 hL3 hL4 h60
  go_enter Try.func16,Try.ntmps16
  have T1:=trivial
  have T2:=trivial
  have T3:=trivial
  go_upto_region 1 with (first
    | (clear T1
       refine wpList_box_page rfl _ rfl (n :: c) (by rfl) ?_
       intro w1 gp hbp hgp hop
       have HBP:=Hd hbp
       have HGP:=Hd hgp
       have HOP:=Hd hop
       clear hbp hgp hop)
    | (clear T2
       refine wpList_new_page rfl rfl ?_
       intro w2 gr hbr hgr hor
       have HBR:=Hd hbr
       have HGR:=Hd hgr
       have HOR:=Hd hor
       clear hbr hgr hor))
  have oA:Only [] w (w.alloc (.cells #[.string sn,.slice a1 L1 c1,.slice a2 L2 c2,.slice a3 L3 c3,.slice a4 L4 c4] 27)):=(Only.refl _ _).alloc _
  have hA:=heap_new w (.cells #[.string sn,.slice a1 L1 c1,.slice a2 L2 c2,.slice a3 L3 c3,.slice a4 L4 c4] 27)
  have hsA:(w.alloc (.cells #[.string sn,.slice a1 L1 c1,.slice a2 L2 c2,.slice a3 L3 c3,.slice a4 L4 c4] 27)).heap.size=w.heap.size+1:=Array.size_push _
  have hgp:=HGP.out
  rw [hsA] at hgp
  have hgr:gp < gr:=by have:=HBP.out.lt;have:=HGR.out;omega
  have HO:=Hd ((oA.trans HOP.out (by simp)).trans HOR.out (by simp))
  have HY:=Hd (HOR.out.heap (HOP.out.heap hA (by simp)) (by simp))
  have HPG:=Hd (HBP.out.kept HOR.out (by simp))
  clear oA hA hsA HGP HOP HOR HGR HBP
  have hD2:=HD.out.kept HO.out (by simp) (fun _ h=>h)
  have K1:=check_any hD2 HWH.out HP.out
  have y0:w2.cell? ⟨w.heap.size,0,none⟩=some (.string sn):=cell_at 0 HY.out
  have y1:w2.cell? ⟨w.heap.size,1,none⟩=some (.slice a1 L1 c1):=cell_at 1 HY.out
  have y2:w2.cell? ⟨w.heap.size,2,none⟩=some (.slice a2 L2 c2):=cell_at 2 HY.out
  have y3:w2.cell? ⟨w.heap.size,3,none⟩=some (.slice a3 L3 c3):=cell_at 3 HY.out
  have y4:w2.cell? ⟨w.heap.size,4,none⟩=some (.slice a4 L4 c4):=cell_at 4 HY.out
  clear hD2
  go_wp2_with fail
  refine K1.mono ?_
  rintro e w3 ⟨ev,rfl,hfz,o3⟩
  replace HO:=Hd (HO.out.trans o3 (by simp))
  replace HY:=Hd (o3.heap HY.out (by simp))
  replace HPG:=Hd (HPG.out.kept o3 (by simp))
  replace HBR:=Hd (HBR.out.kept o3 (by simp))
  have HFZ:=Hd hfz
  obtain ⟨i0,ci0,pi0,hi0⟩:∃ i c p,chkD d=(i,c,p):=⟨_,_,_,rfl⟩
  rw [hi0]
  obtain ⟨im,ist,inn,itu⟩:=i0
  unfold infoV
  dsimp only
  obtain ⟨st',hst⟩:∃ x:Int,x=ist:=⟨_,rfl⟩
  obtain ⟨nm',hnm⟩:∃ x:Int,x=inn:=⟨_,rfl⟩
  rw [← hst,← hnm]
  clear K1 o3 hfz hi0 hst hnm y0 y1 y2 y3 y4
  go_upto_region 2 with (fail)
  have o4:=(Only.refl [] w3).alloc (.cells #[.int .i64 im,.int .i64 st',.int .i64 nm',.bool itu] 51)
  generalize w3.alloc (.cells #[.int .i64 im,.int .i64 st',.int .i64 nm',.bool itu] 51)=w4 at o4⊢
  replace HO:=Hd (HO.out.trans o4 (by simp))
  replace HY:=Hd (o4.heap HY.out (by simp))
  replace HPG:=Hd (HPG.out.kept o4 (by simp))
  replace HBR:=Hd (HBR.out.kept o4 (by simp))
  replace HFZ:=Hd (HFZ.out.quiet o4)
  clear o4
  cases hflt:(opS CS.new d).flt with
  | some x=>
    obtain ⟨cc,pp⟩:=x
    have hfz:=HFZ.out
    rw [hflt] at hfz
    obtain ⟨fg,rfl,-⟩:=hfz
    have hRR:=HR.out
    rw [hflt,if_pos (show (some (cc,pp)).isSome=true from rfl)] at hRR
    have HRR:=Hd hRR
    have q1:=neq_flt fg
    clear hRR hflt
    go_wp2_with (first
      | (refine wpList_built rfl [] rfl (0 :: blankP) built_none ?_)
      | (refine wpList_store_page rfl _ _ rfl gr (0 :: blankP) (by rfl) (by rfl) (by rfl) _ HBR.out (by rfl) ?_
         intro w5 hb5 ho5))
    have ho6:=HO.out.trans ho5 (fun k hk=>.inr (by rw [List.mem_singleton.1 hk];omega))
    (try simp only [Exit.inBlock,Exit.then])
    refine bodyPost_ret (results_page3 rfl _ _ gr _ _ _ (by rfl) (by rfl) (by rfl) hb5 (by rfl)) rfl ?_
    unfold RunPost
    rw [HRR.out]
    exact ⟨rfl,ho6⟩
  | none=>
    have hfz:=HFZ.out
    rw [hflt] at hfz
    have hfz:ev=.nilIface:=hfz
    subst hfz
    have hRR:=HR.out
    rw [hflt,if_neg (show ¬ (none:Option (Int×Int)).isSome=true by decide)] at hRR
    replace HR:=Hd hRR
    have HFL:=Hd hflt
    have q1:=neq_nil
    have y0:w4.cell? ⟨w.heap.size,0,none⟩=some (.string sn):=cell_at 0 HY.out
    have y1:w4.cell? ⟨w.heap.size,1,none⟩=some (.slice a1 L1 c1):=cell_at 1 HY.out
    have y2:w4.cell? ⟨w.heap.size,2,none⟩=some (.slice a2 L2 c2):=cell_at 2 HY.out
    have y3:w4.cell? ⟨w.heap.size,3,none⟩=some (.slice a3 L3 c3):=cell_at 3 HY.out
    have y4:w4.cell? ⟨w.heap.size,4,none⟩=some (.slice a4 L4 c4):=cell_at 4 HY.out
    clear hRR hflt HFZ
    go_wp2_with fail
    refine (ccalls_any L1 L0 w4 a1 c1 a0 c0 sn a2 a3 a4 L2 L3 L4 c2 c3 c4).mono ?_
    rintro e w5 ⟨rfl,o5⟩
    replace HO:=Hd (HO.out.trans o5 (by simp))
    replace HY:=Hd (o5.heap HY.out (by simp))
    replace HPG:=Hd (HPG.out.kept o5 (by simp))
    replace HBR:=Hd (HBR.out.kept o5 (by simp))
    clear o5 y0 y1 y2 y3 y4
    by_cases hll:L0=L1
    · rw [if_pos hll]
      have hRR:=HR.out
      rw [if_neg (by rw [← HL0.out,← HL1.out];simpa using hll)] at hRR
      replace HR:=Hd hRR
      have q2:=neq_nil
      clear hRR q1
      have hm2:=@run_makeMap Try.prog 70
      go_upto_region 8 with (first
        | (refine wpList_load_page rfl _ rfl gp (by rfl) _ HPG.out H61.out ?_)
        | (refine wpList_new_run rfl rfl ?_)
        | (refine wpList_built_run rfl _ _ rfl n c w5.heap.size H60.out (by rfl) (by rfl) ?_)
        | (refine wpList_store_run rfl _ _ rfl _ n c w5.heap.size H60.out (by rfl) (by rfl) (heap_new _ _) ?_
           intro w6 hrow ho6))
      have hs1:(w5.alloc (.map #[] 0)).heap.size=w5.heap.size+1:=Array.size_push _
      have hmap:NMap (w5.alloc (.map #[] 0)) w5.heap.size 3 0 0 (fun _=>none):=NMap.made w5 _
      have ob:Only [] w5 (w5.alloc (.map #[] 0)):=(Only.refl _ _).alloc _
      have hr5:gr < w5.heap.size:=HBR.out.lt
      obtain ⟨g,hgd⟩:∃ g,g=(w5.alloc (.map #[] 0)).heap.size:=⟨_,rfl⟩
      obtain ⟨b,hbd⟩:∃ b,b=w5.heap.size:=⟨_,rfl⟩
      rw [← hgd] at hs1 hrow ho6⊢
      rw [← hbd] at hs1 hmap hrow hr5
      have oc:Only [] (w5.alloc (.map #[] 0)) ((w5.alloc (.map #[] 0)).alloc (.cells runZ 72)):=(Only.refl _ _).alloc _
      have hmap6:=(hmap.kept oc (by simp)).kept ho6 (by simp;omega)
      have o56:Only [] w5 w6:=(ob.trans oc (by simp)).trans ho6 (fun k hk=>.inr (by rw [List.mem_singleton.1 hk];omega))
      have hrm:RM w6 g b (namesD d) 960 n ⟨c,lastE []⟩:=⟨hrow,⟨0,hmap6,by have h1:=miss_len (namesD d) (lastE []);have h2:=namesD_len HWH.out;show 0+miss (namesD d) (lastE [])≤960;omega⟩,⟨HC.out,nw_last [] (by simp)⟩,by decide⟩
      replace HO:=Hd (HO.out.trans o56 (by simp))
      replace HY:=Hd (o56.heap HY.out (by simp))
      replace HBR:=Hd (HBR.out.kept o56 (by simp))
      have HRM:=Hd hrm
      have hwgp:w.heap.size < gp:=by omega
      have hgb:b < g:=by omega
      clear hs1 hm2 hrow ho6 hmap ob oc hmap6 o56 hrm hgd hbd q2 HPG hgp HC
      have y1:w6.cell? ⟨w.heap.size,1,none⟩=some (.slice a1 L1 c1):=cell_at 1 HY.out
      go_wp2_with fail
      clear y1
      have hlb:w.heap.size≤b:=by omega
      go_loopw [13,14,42] (fun ia ib ic wr=>∃ j:Nat,j≤L1∧ic=.int .i64 (j:Int)∧Hid (RM wr g b (namesD d) 960 n ⟨c,lastE ((d.params.zip l).take j)⟩)∧Hid (Only [b] w6 wr)) (fun ia ib ic _=>L1 - (intOf ic).toNat)
      case atStart=>exact ⟨0,Nat.zero_le _,rfl,HRM,Hd (Only.refl _ _)⟩
      case round=>
        obtain ⟨j,hjl,rfl,HK,HOb⟩:=hrel
        have hwr:Only [] w wr:=HO.out.trans HOb.out (fun k hk=>.inr (by rw [List.mem_singleton.1 hk];exact hlb))
        have HWR:=Hd hwr
        clear hwr
        by_cases hlt:j < L1
        · have hlt':(j:Int) < (L1:Int):=by omega
          have hlt0:(j:Int) < (L0:Int):=by omega
          have hlt0':j < L0:=by omega
          have j0:(0:Int)≤(j:Int):=by omega
          obtain ⟨pn,hpn⟩:∃ e,d.params[j]?=some e:=⟨_,List.getElem?_eq_getElem (by rw [← HL1.out];exact hlt)⟩
          obtain ⟨az,haz⟩:∃ e,l[j]?=some e:=⟨_,List.getElem?_eq_getElem (by rw [← HL0.out];exact hlt0')⟩
          obtain ⟨gq,rfl,-,hes⟩:=HPT.out.1.nth hpn
          obtain ⟨haz64,bq,offq,rfl,hbqw,hcz⟩:=HV.out.nth haz
          have x0:wr.cell? ⟨gq,j,none⟩=some (.string (strOf pn)):=cell_kept HWR.out hes (by simp)
          have x1:wr.cell? ⟨bq,offq+j,none⟩=some (.int .i64 az):=cell_kept HWR.out hcz (by simp)
          have hpl:pn.length≤65536:=HWH.out.params pn (List.mem_of_getElem? hpn)
          have hpi:pn∈namesD d:=List.mem_append_left _ (List.mem_of_getElem? hpn)
          have hsnoc:lastE ((d.params.zip l).take (j+1))=nput (lastE ((d.params.zip l).take j)) pn az:=by rw [zip_snoc hpn haz,lastE_snoc]
          obtain ⟨sp,hsp⟩:∃ sp,sp=strOf pn:=⟨_,rfl⟩
          rw [← hsp] at x0
          obtain ⟨cnt,hmap,hcnt⟩:=HK.out.names
          have HSP:=Hd hsp
          have HSNO:=Hd hsnoc
          have HMP:=Hd hmap
          have HI:=Hd hpi
          clear hsp hsnoc hmap hpn haz hes hcz hpi
          go_upto_region 11 with (fail)
          have y61:=HK.out.map
          have oD:Only [] wr wr.drew:=(Only.refl [] wr).drew
          refine wp_region_held_drew (S:=fun w'=>w'.cell? ⟨g,61,none⟩=some (.map (some b))∧w'.cell? ⟨bq,offq+j,none⟩=some (.int .i64 az)) (by kernel_rfl) ⟨cell_kept oD y61 (by simp),cell_kept oD x1 (by simp)⟩ (fun hH=>?_)
          have HKD:=Hd (HK.out.quiet oD)
          have HMD:=Hd (HMP.out.kept oD (by simp))
          have HOD:=Hd (HOb.out.trans oD (by simp))
          have HNB:=Hd (show bq≠b by omega)
          clear oD y61 x0 x1
          generalize wr.drew=wd at HKD HMD HOD hH⊢
          refine tk 0 hH ?_
          refine tk 1 hH ?_
          refine tk 2 hH ?_
          refine tk 3 hH ?_
          refine tk 4 hH ?_
          refine tk 5 hH ?_
          refine tk 6 hH ?_
          refine rd 7 (fun K hK=>?_)
          refine step_nmap_store (by rfl) (.tmp 48) (.tmp 49) (.tmp 53) (by rfl) Try.underlying70 Try.underlying3 (by rfl) HMD.out (by omega) pn (by rw [← HSP.out];rfl) hpl az (by rfl) (n64_wf haz64) (fun w7 hm7 o7=>?_)
          have hr7:=HKD.out.put HI.out haz64 hcnt hm7 o7
          rw [← HSNO.out] at hr7
          have HR7:=Hd hr7
          have HO7:=Hd (HOD.out.trans o7 (fun k hk=>.inl hk))
          refine hK.out _ _ ⟨cell_kept o7 hH.1 (by simpa using HKD.out.ne.symm),cell_kept o7 hH.2 (by simpa using HNB.out)⟩ (fun hH=>?_)
          clear hK K o7 hm7 hr7
          refine wpAnyH_done (by kernel_rfl) ?_ _
          clear hH
          go_wp2_with fail
          refine ⟨⟨j+1,by omega,by go_num,HR7,HO7⟩,?_⟩
          simp [intOf]
          omega
        · obtain rfl:j=L1:=by omega
          have hrm:=HK.out
          rw [List.take_of_length_le (by rw [List.length_zip,← HL1.out,← HL0.out];omega)] at hrm
          have HRN:=Hd (show RM wr g b (namesD d) 960 n ⟨c,mP d.params l⟩ from hrm)
          have HYr:=Hd (HOb.out.heap HY.out (by simp;omega))
          have HBr:=Hd (HBR.out.kept HOb.out (by simp;omega))
          clear hrm HK HOb HY HBR HRM HO hlt HV
          generalize wr=wa at HWR HRN HYr HBr⊢
          obtain ⟨M,hM⟩:∃ M,M=mP d.params l:=⟨_,rfl⟩
          rw [← hM] at HRN HR
          have hg0:¬ (B g∧g < w.heap.size):=fun h=>by omega
          have hb0:¬ (B b∧b < w.heap.size):=fun h=>by omega
          have hgrw:w.heap.size≤gr:=by omega
          have hL2b:L2≤1000000:=by have:=sizeL_ge d.needs;have:=HWH.out.size;have:=HL2.out;omega
          have y2:wa.cell? ⟨w.heap.size,2,none⟩=some (.slice a2 L2 c2):=cell_at 2 HYr.out
          clear hM
          go_wp2_with fail
          clear y2
          go_loopw [58] (fun ia wq=>∃ j:Nat,j≤L2∧ia=.int .i64 (j:Int)∧Hid (((exVs c M d.needs).take j).any (fun v=>v == 0)=false)∧Hid (Only [] wa wq)) (fun ia _=>L2 - (intOf ia).toNat)
          case atStart=>exact ⟨0,Nat.zero_le _,rfl,Hd (by simp),Hd (Only.refl _ _)⟩
          case round=>
            obtain ⟨j,hjl2,rfl,HA,HQ⟩:=hrel
            generalize wr=wq at HQ⊢
            have HWQ:=Hd (HWR.out.trans HQ.out (by simp))
            by_cases hlt:j < L2
            · have hlt':(j:Int) < (L2:Int):=by omega
              have j0:(0:Int)≤(j:Int):=by omega
              obtain ⟨e,he⟩:∃ e,d.needs[j]?=some e:=⟨_,List.getElem?_eq_getElem (by rw [← HL2.out];exact hlt)⟩
              obtain ⟨gq,rfl,-,hes⟩:=HPT.out.2.1.nth he
              obtain ⟨k1,n1,sn1,b1,l1,d1,p1,hev1,hat1⟩:=hes.at5 he
              have hat:=hat1.kept HWQ.out (by simp)
              have z0:=hat.c0
              have z1:=hat.c1
              have z2:=hat.c2
              have z3:=hat.c3
              have z4:=hat.c4
              have hve:(exVs c M d.needs)[j]?=some (exV c M e):=by rw [exVs_get,he];rfl
              have HE:=Hd (And.intro (wL_mem HWH.out.needs he) (gL_mem HG.out.needs he))
              have HEV:=Hd (hev1.quiet HWQ.out)
              clear hes hat1 hat he hev1
              go_upto_region 16 with (fail)
              have o8:Only [] wq (wq.alloc (.cells #[.int .i64 k1,.int .i64 n1,.string sn1,.slice b1 l1 d1,.int .i64 p1] 74)):=(Only.refl _ _).alloc _
              have h8:=heap_new wq (.cells #[.int .i64 k1,.int .i64 n1,.string sn1,.slice b1 l1 d1,.int .i64 p1] 74)
              generalize wq.alloc (.cells #[.int .i64 k1,.int .i64 n1,.string sn1,.slice b1 l1 d1,.int .i64 p1] 74)=w8 at o8 h8⊢
              have HQ8:=Hd (HQ.out.trans o8 (by simp))
              have KX:=pexpr_any (HRN.out.quiet HQ8.out) HE.out.1 HE.out.2 (HEV.out.quiet o8)
              have y0:w8.cell? ⟨wq.heap.size,0,none⟩=some (.int .i64 k1):=cell_at 0 h8
              have y1:w8.cell? ⟨wq.heap.size,1,none⟩=some (.int .i64 n1):=cell_at 1 h8
              have y2:w8.cell? ⟨wq.heap.size,2,none⟩=some (.string sn1):=cell_at 2 h8
              have y3:w8.cell? ⟨wq.heap.size,3,none⟩=some (.slice b1 l1 d1):=cell_at 3 h8
              have y4:w8.cell? ⟨wq.heap.size,4,none⟩=some (.int .i64 p1):=cell_at 4 h8
              dsimp only at KX
              generalize exV c M e=V at KX hve
              clear o8 h8 z0 z1 z2 z3 z4
              have HVE:=Hd hve
              clear hve
              go_wp2_with fail
              refine KX.mono ?_
              rintro en w9 ⟨rfl,o9⟩
              have HQ9:=Hd (HQ8.out.trans o9 (by simp))
              clear KX o9 y0 y1 y2 y3 y4
              by_cases hV0:V=0
              · subst hV0
                have hany:(exVs c M d.needs).any (fun v=>v == 0)=true:=List.any_eq_true.2 ⟨0,List.mem_of_getElem? HVE.out,rfl⟩
                have hRR:=HR.out
                rw [if_pos hany] at hRR
                have HRR:=Hd hRR
                have HB9:=Hd (HBr.out.kept HQ9.out (by simp))
                clear hany hRR
                go_wp2_with (first
                  | (refine wpList_built rfl [] rfl (0 :: blankP) built_none ?_)
                  | (refine wpList_store_page rfl _ _ rfl gr (0 :: blankP) (by rfl) (by rfl) (by rfl) _ HB9.out (by rfl) ?_
                     intro w10 hb10 ho10))
                have ho11:=(HWR.out.trans HQ9.out (by simp)).trans ho10 (fun k hk=>.inr (by rw [List.mem_singleton.1 hk];exact hgrw))
                (try simp only [Exit.inBlock,Exit.then])
                refine bodyPost_ret (results_page3 rfl _ _ gr _ _ _ (by rfl) (by rfl) (by rfl) hb10 (by rfl)) rfl ?_
                unfold RunPost
                rw [HRR.out]
                exact ⟨rfl,ho11⟩
              · have hV1:(V == 0)=false:=by simpa using hV0
                have HA1:=Hd (show ((exVs c M d.needs).take (j+1)).any (fun v=>v == 0)=false by
                  rw [List.take_add_one,HVE.out,List.any_append,HA.out]
                  simpa using hV0)
                go_wp2_with fail
                refine ⟨⟨j+1,by omega,by go_num,HA1,HQ9⟩,?_⟩
                simp [intOf]
                omega
            · obtain rfl:j=L2:=by omega
              have hany:=HA.out
              rw [List.take_of_length_le (by rw [exVs_length,HL2.out];omega)] at hany
              have hRR:=HR.out
              rw [if_neg (by rw [hany];decide)] at hRR
              have HYq:=Hd (HQ.out.heap HYr.out (by simp))
              have HBq:=Hd (HBr.out.kept HQ.out (by simp))
              have y3:wq.cell? ⟨w.heap.size,3,none⟩=some (.slice a3 L3 c3):=cell_at 3 HYq.out
              have KX:=pblock_any (HRN.out.quiet HQ.out) (okB_of HWH.out HP.out HG.out HFL.out) (by have:=HWH.out.size;omega) (HPT.out.2.2.1.kept HWQ.out (by simp) (fun _ h=>h)) hg0 hb0
              generalize pgB d.body ⟨c,M⟩=s2 at KX hRR
              have HRR:=Hd hRR
              clear hany hRR HA
              go_wp2_with fail
              refine KX.mono ?_
              rintro en w10 ⟨rfl,h10,o10⟩
              have HM10:=Hd h10
              have hgs:∀ k∈[g,b],w.heap.size < k:=fun k hk=>by
                simp only [List.mem_cons,List.not_mem_nil,or_false] at hk
                rcases hk with rfl | rfl<;>omega
              have HW10:=Hd (HWQ.out.trans o10 (fun k hk=>.inr (Nat.le_of_lt (hgs k hk))))
              have HY10:=Hd (o10.heap HYq.out (fun hk=>by have:=hgs _ hk;omega))
              have HB10:=Hd (HBq.out.kept o10 (by simp;omega))
              clear KX y3 h10 o10 HBq HYq
              have y4:w10.cell? ⟨w.heap.size,4,none⟩=some (.slice a4 L4 c4):=cell_at 4 HY10.out
              go_wp2_with fail
              clear y4
              have hone:L4≤1:=by rw [HL4.out];exact HWH.out.one
              go_loopw [17,74] (fun ia ib wz=>∃ j:Nat,j≤L4∧ib=.int .i64 (j:Int)∧(∃ gv,ia=.int .i64 gv∧Hid (gv=if j=0 then 0 else (exVs s2.c s2.m d.give).getD 0 0))∧Hid (Only [] w10 wz)) (fun ia ib _=>L4 - (intOf ib).toNat)
              case atStart=>exact ⟨0,Nat.zero_le _,rfl,⟨0,rfl,Hd rfl⟩,Hd (Only.refl _ _)⟩
              case round=>
                obtain ⟨j,hjl4,rfl,⟨gv,rfl,HGV⟩,HZ⟩:=hrel
                generalize wr=wz at HZ⊢
                have HWZ:=Hd (HW10.out.trans HZ.out (by simp))
                by_cases hlt:j < L4
                · have hlt':(j:Int) < (L4:Int):=by omega
                  obtain rfl:j=0:=by omega
                  obtain ⟨e,he⟩:∃ e,d.give[0]?=some e:=⟨_,List.getElem?_eq_getElem (by rw [← HL4.out];exact hlt)⟩
                  obtain ⟨gq,rfl,-,hes⟩:=HPT.out.2.2.2.nth he
                  obtain ⟨k1,n1,sn1,b1,l1,d1,p1,hev1,hat1⟩:=hes.at5 he
                  have hat:=hat1.kept HWZ.out (by simp)
                  have z0:wz.cell? ⟨gq,0,none⟩=some (.int .i64 k1):=hat.c0
                  have z1:wz.cell? ⟨gq,1,none⟩=some (.int .i64 n1):=hat.c1
                  have z2:wz.cell? ⟨gq,2,none⟩=some (.string sn1):=hat.c2
                  have z3:wz.cell? ⟨gq,3,none⟩=some (.slice b1 l1 d1):=hat.c3
                  have z4:wz.cell? ⟨gq,4,none⟩=some (.int .i64 p1):=hat.c4
                  have hve:(exVs s2.c s2.m d.give).getD 0 0=exV s2.c s2.m e:=by rw [List.getD_eq_getElem?_getD,exVs_get,he];rfl
                  have HE:=Hd (And.intro (wL_mem HWH.out.give he) (gL_mem HG.out.give he))
                  have HEV:=Hd (hev1.quiet HWZ.out)
                  clear hes hat1 hat he hev1 HGV
                  go_upto_region 24 with (fail)
                  have o8:Only [] wz (wz.alloc (.cells #[.int .i64 k1,.int .i64 n1,.string sn1,.slice b1 l1 d1,.int .i64 p1] 74)):=(Only.refl _ _).alloc _
                  have h8:=heap_new wz (.cells #[.int .i64 k1,.int .i64 n1,.string sn1,.slice b1 l1 d1,.int .i64 p1] 74)
                  generalize wz.alloc (.cells #[.int .i64 k1,.int .i64 n1,.string sn1,.slice b1 l1 d1,.int .i64 p1] 74)=w11 at o8 h8⊢
                  have HZ8:=Hd (HZ.out.trans o8 (by simp))
                  have KX:=pexpr_any (HM10.out.quiet HZ8.out) HE.out.1 HE.out.2 (HEV.out.quiet o8)
                  have y0:w11.cell? ⟨wz.heap.size,0,none⟩=some (.int .i64 k1):=cell_at 0 h8
                  have y1:w11.cell? ⟨wz.heap.size,1,none⟩=some (.int .i64 n1):=cell_at 1 h8
                  have y2:w11.cell? ⟨wz.heap.size,2,none⟩=some (.string sn1):=cell_at 2 h8
                  have y3:w11.cell? ⟨wz.heap.size,3,none⟩=some (.slice b1 l1 d1):=cell_at 3 h8
                  have y4:w11.cell? ⟨wz.heap.size,4,none⟩=some (.int .i64 p1):=cell_at 4 h8
                  rw [← hve] at KX
                  obtain ⟨V,hV⟩:∃ V,V=(exVs s2.c s2.m d.give).getD 0 0:=⟨_,rfl⟩
                  rw [← hV] at KX
                  have HGW:=Hd (show V=if 0+1=0 then 0 else (exVs s2.c s2.m d.give).getD 0 0 from hV)
                  clear o8 h8 z0 z1 z2 z3 z4 hve hV
                  go_wp2_with fail
                  refine KX.mono ?_
                  rintro en w12 ⟨rfl,o12⟩
                  have HZ12:=Hd (HZ8.out.trans o12 (by simp))
                  clear KX o12 y0 y1 y2 y3 y4
                  go_wp2_with fail
                  refine ⟨⟨0+1,by omega,by go_num,⟨V,rfl,HGW⟩,HZ12⟩,?_⟩
                  simp [intOf]
                  omega
                · obtain rfl:j=L4:=by omega
                  have hgv:gv=(exVs s2.c s2.m d.give).getD 0 0:=by
                    rw [HGV.out]
                    split
                    · rename_i h0
                      have:d.give=[]:=List.eq_nil_of_length_eq_zero (by rw [← HL4.out];exact h0)
                      rw [this]
                      unfold exVs
                      rfl
                    · rfl
                  have hRR:=HRR.out
                  rw [← hgv] at hRR
                  have HRR2:=Hd hRR
                  have HMZ:=Hd (HM10.out.quiet HZ.out)
                  have HBZ:=Hd (HB10.out.kept HZ.out (by simp))
                  have h61:(n :: s2.c).length=61:=by rw [List.length_cons,HM10.out.sw.1.len]
                  have H612:=Hd h61
                  clear hgv hRR HRR HGV h61
                  go_wp2_with (first
                    | (refine wpList_load_pg rfl _ rfl HMZ.out (by rfl) ?_)
                    | (refine wpList_store_page rfl _ _ rfl gr (n :: s2.c) (by rfl) (by rfl) H612.out _ HBZ.out (by rfl) ?_
                       intro w13 hb13 ho13))
                  have ho14:=HWZ.out.trans ho13 (fun k hk=>.inr (by rw [List.mem_singleton.1 hk];exact hgrw))
                  (try simp only [Exit.inBlock,Exit.then])
                  refine bodyPost_ret (results_page3 rfl _ _ gr _ _ _ (by rfl) (by rfl) (by rfl) hb13 H612.out) rfl ?_
                  unfold RunPost
                  rw [HRR2.out]
                  exact ⟨rfl,ho14⟩
    · rw [if_neg hll]
      have hRR:=HR.out
      rw [if_pos (by rw [← HL0.out,← HL1.out];exact hll)] at hRR
      have HRR:=Hd hRR
      have q2:=neq_e2
      clear hRR hll q1
      go_wp2_with (first
        | (refine wpList_built rfl [] rfl (0 :: blankP) built_none ?_)
        | (refine wpList_store_page rfl _ _ rfl gr (0 :: blankP) (by rfl) (by rfl) (by rfl) _ HBR.out (by rfl) ?_
           intro w6 hb6 ho6))
      have ho7:=HO.out.trans ho6 (fun k hk=>.inr (by rw [List.mem_singleton.1 hk];omega))
      (try simp only [Exit.inBlock,Exit.then])
      refine bodyPost_ret (results_page3 rfl _ _ gr _ _ _ (by rfl) (by rfl) (by rfl) hb6 (by rfl)) rfl ?_
      unfold RunPost
      rw [HRR.out]
      exact ⟨rfl,ho7⟩
end Go.Proofs.Ytagkbbcpbebapaa
