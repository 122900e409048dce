import Derived.Test.YtiaeagpepfmfgaaWq
import Derived.Test.YtiaeagpepfmfgaaRows
import Derived.OpenShut
import Derived.ChangeSame
import Derived.Carry
import Derived.Test.YtiaeagpepfmfgaaB2q
import Derived.Deep.Slices
import Derived.Lib.SmallJoins
import Derived.Test.YtiaeagpepfmfgaaKbq
import Derived.Test.YtiaeagpepfmfgaaGbq
import Derived.Test.YtiaeagpepfmfgaaCbq
import Derived.Test.YtiaeagpepfmfgaaG12q
import Derived.BigQuiet
namespace Go.Proofs.Ytiaeagpepfmfgaa
open Go.RowKit Go.Maps
set_option linter.unusedVariables false
section
variable {P:Program} {md:Region.Mode} {ops:Array Oper} {Q:Exit→Act→World→Prop} {S S':World→Prop} {B:List Nat}
def wpAnyB (P:Program) (md:Region.Mode) (ops:Array Oper) (Q:Exit→Act→World→Prop) (S:World→Prop) (B:List Nat):Nat→Array Bool→Act→World→Prop
 | 0,listed,a,w=>Region.ready md ops listed=[]∧Q .normal a w
 | fuel+1,listed,a,w=>
  (Region.ready md ops listed=[]→Q .normal a w)∧
  ∀ i∈Region.ready md ops listed,wpOp P ops Q i (fun a' w'=>(i∈B→S w')∧wpAnyB P md ops Q S B fuel (listed.setIfInBounds i true) a' w') a w
def behind (md:Region.Mode) (ops:Array Oper) (i:Nat):List Nat:=
 (List.range ops.size).foldl (fun D k=>match ops[k]? with
  | some o=>if o.after.any (fun e=>Region.binds md e && (e.on == i || D.contains e.on)) then k :: D else D
  | none=>D) []
def blockedB (md:Region.Mode) (ops:Array Oper) (listed:Array Bool) (i:Nat) (B D:List Nat):Bool:=
 (D.all fun k=>!listed.getD k false && match ops[k]? with
  | some o=>o.after.any fun e=>Region.binds md e && (e.on == i || D.contains e.on)
  | none=>true) &&
 (List.range ops.size).all fun k=>listed.getD k true || k == i || B.contains k || D.contains k
structure Waits (md:Region.Mode) (ops:Array Oper) (listed:Array Bool) (i:Nat) (B D:List Nat):Prop where
 open_:∀ k∈D,listed.getD k false=false
 wait:∀ k o,ops[k]?=some o→k∈D→∃ e∈o.after,Region.binds md e=true∧(e.on=i∨e.on∈D)
 all:∀ k o,ops[k]?=some o→listed.getD k true=false→k≠i→k∉B→k∈D
theorem blockedB_spec {listed:Array Bool} {i:Nat} {D:List Nat} (h:blockedB md ops listed i B D=true):Waits md ops listed i B D:=by
 simp only [blockedB,Bool.and_eq_true,List.all_eq_true,List.mem_range] at h
 obtain ⟨h1,h2⟩:=h
 refine ⟨fun k hk=>by have:=(h1 k hk).1;simpa using this,fun k o ho hk=>?_,fun k o ho hun hki hkB=>?_⟩
 ·have:=(h1 k hk).2
  simp only [ho] at this
  obtain ⟨e,he,hb⟩:=Array.any_eq_true'.1 this
  simp only [Bool.and_eq_true,Bool.or_eq_true,beq_iff_eq,List.contains_iff_mem] at hb
  exact ⟨e,he,hb.1,hb.2⟩
 ·have:=h2 k (Array.getElem?_eq_some_iff.1 ho).1
  simpa [hun,hki,hkB] using this
theorem wpAnyB_done {listed:Array Bool} {a:Act} {w:World} (hr:Region.ready md ops listed=[]) (h:Q .normal a w) :
  ∀ fuel,wpAnyB P md ops Q S B fuel listed a w
 | 0=>⟨hr,h⟩
 | _+1=>⟨fun _=>h,by rw [hr];simp⟩
end
section
variable {P:Program} {md:Region.Mode} {l:List Oper} {Q:Exit→Act→World→Prop} {S:World→Prop} {B:List Nat}
end
end Go.Proofs.Ytiaeagpepfmfgaa
namespace Go.Proofs.Ytiaeagpepfmfgaa
open Go.RowKit Go.Maps
set_option linter.unusedVariables false
section
variable {P:Program} {md:Region.Mode} {ops:Array Oper} {Q:Exit→Act→World→Prop} {S S':World→Prop} {B:List Nat}
def wpAnyC (P:Program) (md:Region.Mode) (ops:Array Oper) (Q:Exit→Act→World→Prop) (S:World→Prop) (B:List Nat):Nat→Array Bool→Act→World→Prop
 | 0,listed,a,w=>Region.ready md ops listed=[]∧Q .normal a w
 | fuel+1,listed,a,w=>
  (Region.ready md ops listed=[]→Q .normal a w)∧
  ∀ i∈Region.ready md ops listed,wpOp P ops Q i (fun a' w'=>(i∈B→S w→S w')∧wpAnyC P md ops Q S B fuel (listed.setIfInBounds i true) a' w') a w
theorem wpAny_of_C:∀ (fuel:Nat) (listed:Array Bool) (a:Act) (w:World),wpAnyC P md ops Q S B fuel listed a w→wpAny P md ops Q fuel listed a w
 | 0,_,_,_,h=>h
 | fuel+1,_,_,_,h=>⟨h.1,fun i hi=>wpOp_mono (fun a' w' h'=>wpAny_of_C fuel _ a' w' h'.2) (h.2 i hi)⟩
theorem wpAnyC_first {i:Nat} {oi:Oper} {v:Value} (hi:ops[i]?=some oi) (hsel:∀ (j:Nat) (o:Oper) cs b,ops[j]?=some o→o.op≠.select cs b)
  (hQ:∀ c a w,Q (.panic c) (a.put oi.dst v) w→Q (.panic c) a w) (D:List Nat) :
  ∀ (fuel:Nat) (listed:Array Bool) (a:Act) (w:World),
   (∀ j oj,ops[j]?=some oj→j≠i→listed.getD j true=false→(∀ e∈oj.after,Region.binds md e=true→e.on≠i)→oi.apart ops oj=true)→
   Waits md ops listed i B D→i∈Region.ready md ops listed→YieldsIf P ops S oi v a→S w→
   wpAnyC P md ops Q S B fuel (listed.setIfInBounds i true) (a.put oi.dst v) w→wpAnyC P md ops Q S B (fuel+1) listed a w:=by
 intro fuel
 induction fuel with
 | zero=>
  intro listed a w _ _ hr hy hS H
  refine ⟨fun h=>(by rw [h] at hr;cases hr),fun j hj=>?_⟩
  by_cases hji:j=i
  ·subst hji;exact hy.wpOp hi hS ⟨fun _ _=>hS,H⟩
  ·have:=ready_mono hj hji
   rw [H.1] at this
   cases this
 | succ fuel ih=>
  intro listed a w hfree hwait hr hy hS H
  refine ⟨fun h=>(by rw [h] at hr;cases hr),fun j hj=>?_⟩
  by_cases hji:j=i
  ·subst hji;exact hy.wpOp hi hS ⟨fun _ _=>hS,H⟩
  ·have h1:=H.2 j (ready_mono hj hji)
   obtain ⟨hjun,oj,hoj,hall⟩:=mem_ready.1 hj
   have hion:listed.getD i false=false:=by
    have h0:=(mem_ready.1 hr).1
    rcases Nat.lt_or_ge i listed.size with h' | h'
    ·simp [h'] at h0⊢
     exact h0
    ·simp [Array.getElem?_eq_none h']
   have hnot:∀ e∈oj.after,Region.binds md e=true→e.on≠i:=fun e he hb heq=>by
    have h1:=hall e he hb
    rw [heq,hion] at h1
    cases h1
   have hjD:j∉D:=fun hd=>by
    obtain ⟨e,he,hb,h2⟩:=hwait.wait j oj hoj hd
    have h3:=hall e he hb
    rcases h2 with h2 | h2
    ·exact hnot e he hb h2
    ·rw [hwait.open_ _ h2] at h3
     cases h3
   have hjB:j∈B:=Classical.byContradiction fun hn=>hjD (hwait.all j oj hoj hjun hji hn)
   have h2:=wpOp_putIf hoj (hfree j oj hoj hji hjun hnot) (fun cs b=>hsel i oi cs b hi) (fun cs b=>hsel j oj cs b hoj) hQ hy h1
   have hfree':∀ k ok,ops[k]?=some ok→k≠i→(listed.setIfInBounds j true).getD k true=false→
     (∀ e∈ok.after,Region.binds md e=true→e.on≠i)→oi.apart ops ok=true:=fun k ok hk hki hun hno=>by
    refine hfree k ok hk hki ?_ hno
    by_cases hjk:j=k
    ·subst hjk;exact hjun
    ·rw [getD_set_ne true hjk] at hun;exact hun
   have hwait':Waits md ops (listed.setIfInBounds j true) i B D:=by
    refine ⟨fun k hk=>?_,hwait.wait,fun k ok hk hun hki hkB=>?_⟩
    ·rw [getD_set_ne false (fun e=>hjD (by rw [e];exact hk))]
     exact hwait.open_ k hk
    ·have hjk:j≠k:=fun e=>hkB (e ▸ hjB)
     rw [getD_set_ne true hjk] at hun
     exact hwait.all k ok hk hun hki hkB
   refine wpOp_mono (fun a' w' h3=>⟨h3.2.1,ih (listed.setIfInBounds j true) a' w' hfree' hwait' (ready_mono hr (Ne.symm hji)) h3.1 (h3.2.1 hjB hS) ?_⟩) h2
   rw [Array.setIfInBounds_comm _ _ hji]
   exact h3.2.2
theorem wpAnyC_pure {i:Nat} {oi:Oper} {v:Value} (hi:ops[i]?=some oi) (hsel:∀ (j:Nat) (o:Oper) cs b,ops[j]?=some o→o.op≠.select cs b)
  (hQ:∀ c a w,Q (.panic c) (a.put oi.dst v) w→Q (.panic c) a w) :
  ∀ (fuel:Nat) (listed:Array Bool) (a:Act) (w:World),
   (∀ j oj,ops[j]?=some oj→j≠i→listed.getD j true=false→(∀ e∈oj.after,Region.binds md e=true→e.on≠i)→oi.apart ops oj=true)→
   i∈Region.ready md ops listed→YieldsIf P ops (fun _=>True) oi v a→
   wpAnyC P md ops Q S B fuel (listed.setIfInBounds i true) (a.put oi.dst v) w→wpAnyC P md ops Q S B (fuel+1) listed a w:=by
 intro fuel
 induction fuel with
 | zero=>
  intro listed a w _ hr hy H
  refine ⟨fun h=>(by rw [h] at hr;cases hr),fun j hj=>?_⟩
  by_cases hji:j=i
  ·subst hji;exact hy.wpOp hi trivial ⟨fun _ h=>h,H⟩
  ·have:=ready_mono hj hji
   rw [H.1] at this
   cases this
 | succ fuel ih=>
  intro listed a w hfree hr hy H
  refine ⟨fun h=>(by rw [h] at hr;cases hr),fun j hj=>?_⟩
  by_cases hji:j=i
  ·subst hji;exact hy.wpOp hi trivial ⟨fun _ h=>h,H⟩
  ·have h1:=H.2 j (ready_mono hj hji)
   obtain ⟨hjun,oj,hoj,hall⟩:=mem_ready.1 hj
   have hion:listed.getD i false=false:=by
    have h0:=(mem_ready.1 hr).1
    rcases Nat.lt_or_ge i listed.size with h' | h'
    ·simp [h'] at h0⊢
     exact h0
    ·simp [Array.getElem?_eq_none h']
   have hnot:∀ e∈oj.after,Region.binds md e=true→e.on≠i:=fun e he hb heq=>by
    have h1:=hall e he hb
    rw [heq,hion] at h1
    cases h1
   have h2:=wpOp_putIf hoj (hfree j oj hoj hji hjun hnot) (fun cs b=>hsel i oi cs b hi) (fun cs b=>hsel j oj cs b hoj) hQ hy h1
   have hfree':∀ k ok,ops[k]?=some ok→k≠i→(listed.setIfInBounds j true).getD k true=false→
     (∀ e∈ok.after,Region.binds md e=true→e.on≠i)→oi.apart ops ok=true:=fun k ok hk hki hun hno=>by
    refine hfree k ok hk hki ?_ hno
    by_cases hjk:j=k
    ·subst hjk;exact hjun
    ·rw [getD_set_ne true hjk] at hun;exact hun
   refine wpOp_mono (fun a' w' h3=>⟨h3.2.1,ih (listed.setIfInBounds j true) a' w' hfree' (ready_mono hr (Ne.symm hji)) h3.1 ?_⟩) h2
   rw [Array.setIfInBounds_comm _ _ hji]
   exact h3.2.2
theorem wp_region_C {id:Nat} {a:Act} {w:World} (B:List Nat) (hm:P.follows .mixedOrders=true) (hS:S w.drew)
  (h:S w.drew→wpAnyC P .any ops Q S B ops.size (Array.replicate ops.size false) a w.drew):(Code.region id ops true).wp P Q a w:=
 wp_region_any hm (wpAny_of_C _ _ _ _ (h hS))
theorem wpAnyC_done {listed:Array Bool} {a:Act} {w:World} (hr:Region.ready md ops listed=[]) (h:Q .normal a w) :
  ∀ fuel,wpAnyC P md ops Q S B fuel listed a w
 | 0=>⟨hr,h⟩
 | _+1=>⟨fun _=>h,by rw [hr];simp⟩
end
section
variable {P:Program} {md:Region.Mode} {l:List Oper} {Q:Exit→Act→World→Prop} {S:World→Prop} {B:List Nat}
theorem takeC_list {i:Nat} {oi:Oper} {v:Value} {fuel:Nat} {listed:Array Bool} {a:Act} {w:World} (hi:l[i]?=some oi)
  (hs:Region.noSelect l.toArray=true) (hf:Region.free md l.toArray listed i=true) (hr:(Region.ready md l.toArray listed).contains i=true) (hb:blockedB md l.toArray listed i B (behind md l.toArray i)=true)
  (hQ:∀ c a w,Q (.panic c) (a.put oi.dst v) w→Q (.panic c) a w) (hy:YieldsIf P l.toArray S oi v a) (hS:S w)
  (h:wpAnyC P md l.toArray Q S B fuel (listed.setIfInBounds i true) (a.put oi.dst v) w):wpAnyC P md l.toArray Q S B (fuel+1) listed a w:=
 wpAnyC_first (by simpa using hi) (Region.noSelect_spec hs) hQ _ fuel listed a w (Region.free_spec (by simpa using hi) hf) (blockedB_spec hb) (by simpa using hr) hy hS h
theorem takeP_list {i:Nat} {oi:Oper} {v:Value} {fuel:Nat} {listed:Array Bool} {a:Act} {w:World} (hi:l[i]?=some oi)
  (hs:Region.noSelect l.toArray=true) (hf:Region.free md l.toArray listed i=true) (hr:(Region.ready md l.toArray listed).contains i=true)
  (hQ:∀ c a w,Q (.panic c) (a.put oi.dst v) w→Q (.panic c) a w) (hy:YieldsIf P l.toArray (fun _=>True) oi v a)
  (h:wpAnyC P md l.toArray Q S B fuel (listed.setIfInBounds i true) (a.put oi.dst v) w):wpAnyC P md l.toArray Q S B (fuel+1) listed a w:=
 wpAnyC_pure (by simpa using hi) (Region.noSelect_spec hs) hQ fuel listed a w (Region.free_spec (by simpa using hi) hf) (by simpa using hr) hy h
theorem readyC_out {i:Nat} {o:Oper} {fuel:Nat} {listed:Array Bool} {a:Act} {w:World} (hr:Region.ready md l.toArray listed=[i]) (hi:B.contains i=false) (ho:l[i]?=some o)
  (h:∀ K':Act→World→Prop,Shut (∀ a w,wpAnyC P md l.toArray Q S B fuel (listed.setIfInBounds i true) a w→K' a w)→if Region.wanted o (yielded l.toArray a.tmps)=true then Oper.wp P o a w K' Q else K' (a.put o.dst undef) w) :
  wpAnyC P md l.toArray Q S B (fuel+1) listed a w:=by
 refine ⟨fun h0=>absurd (hr ▸ h0) (by simp),fun j hj=>?_⟩
 rw [hr] at hj
 obtain rfl:=List.mem_singleton.1 hj
 have hn:j∉B:=by simpa using hi
 exact wpOp_step (by simpa using ho) (fun K' hK=>h K' (fun a w hW=>hK a w ⟨fun hB=>absurd hB hn,hW⟩))
end
end Go.Proofs.Ytiaeagpepfmfgaa
namespace Go.Proofs.Ytiaeagpepfmfgaa
open Go.ChangeShapes Go.WideShapes Go.ChangeAt Go.RowKit
theorem law_own:ownKnob Try.prog.godebug=none:=by kernel_rfl
section
variable {H:Type} {enc:TypeId×Value→H} {P:Program}
theorem post_quiet {f:Func} {s:ChangeSpec} {apart fresh handsOn again:Bool} {W W':World} {args:Array Value} {v:Value} {ds gs:List (DataW H)} {before pa pv:List MemPlace}
  (hW:DataW.Whole enc P f.params.toList s.vars apart W args.toList ds gs before) (ho:Only [] W W')
  (hres:∀ (b:Nat) (sp:Nat→Bool) (hd:Bool),DataW.TrodAll enc P W' b sp hd f.resultTypes.toList (v.resultList f.resultTypes.size) (s.fn H (ds++gs)).results [])
  (hargs:∀ sp:Nat→Bool,(∀ p∈before,sp p.block=true)→DataW.TrodAll enc P W' 0 sp true f.params.toList args.toList (s.fn H (ds++gs)).args pa)
  (hvars:∀ sp:Nat→Bool,(∀ p∈before,sp p.block=true)→DataW.TrodVars enc P W' sp s.vars (s.fn H (ds++gs)).vars pv)
  (hps:before=pa++pv)
  (hok:∀ (j:Nat) (t:TypeId) (r:Value),f.resultTypes[j]?=some t→(v.resultList f.resultTypes.size)[j]?=some r→Value.okWide P W' .any 0 t r) :
  s.post enc P f apart fresh handsOn again W args v W':=by
 have hb:=ho.below
 have old:=fun p (hp:p∈before)=>hW.lt p hp
 have seen:∀ p∈before,(fun b=>decide (b < W.heap.size)) p.block=true:=fun p hp=>by simpa using old p hp
 refine ⟨ds,gs,before,[],pa,pv,hW,hres _ _ _,hargs _ seen,hvars _ seen,World.keptBut_mono (fun p hp=>⟨hp,?_⟩) (hb.frame (·∈before)),fun _=>?_⟩
 ·exact .inr (List.mem_append.1 (hps ▸ hp))
 ·obtain ⟨_,_,_,_,_,free,single⟩:=hW
  refine ⟨hok,_,_,([]++pa)++pv,⟨[]++pa,pv,trodAll_append (hargs _ (fun _ _=>rfl)) (hres _ _ _),hvars _ (fun _ _=>rfl),rfl,fun b off hp=>?_,fun ha=>?_⟩,fun p hp _=>?_⟩
  ·have hm:MemPlace.cell b off∈before:=by rw [hps];simpa using hp
   exact (hb.frozen (old _ hm)).trans (free b off hm)
  ·simpa [hps] using single ha
  ·rw [hps]
   simpa using hp
end
theorem law_laid:laidOutB Try.prog=true:=by kernel_rfl
theorem arg_stays {H:Type} {enc:TypeId×Value→H} {t:TypeId} (hr:Try.prog.readableRec t=true) (hrow:t < Try.prog.types.size) {W W':World} {v:Value} {d:DataW H} {ps:List MemPlace}
  (h:DataW.Trod enc Try.prog W 0 (fun _=>true) true t v d ps) (ho:Only [] W W') (hlt:∀ x∈ps,x.block < W.heap.size) {sp:Nat→Bool} (hsp:∀ x∈ps,sp x.block=true):DataW.Trod enc Try.prog W' 0 sp true t v d ps:=
 WideElems.Trod_stays law_laid hr hrow h (fun x hx=>ho.below.same (hlt x hx)) hsp
end Go.Proofs.Ytiaeagpepfmfgaa
namespace Go.Proofs.Ytiaeagpepfmfgaa
open Go.ChangeShapes Go.WideShapes Go.ChangeAt Go.RowKit Go.Deep
set_option linter.unusedVariables false
section
variable {H:Type} {enc:TypeId×Value→H} {W:World} {base:Nat} {sp:Nat→Bool} {held:Bool}
theorem addr_add (a:Addr) (i:Nat) (h:a.spot=none):a.add i=⟨a.block,a.off+i,none⟩:=by
 unfold Addr.add
 obtain ⟨b,o,s⟩:=a
 simp only at h
 subst h
 split<;>simp_all
theorem spot_none {a:Addr} {v:Value} (h:W.cell? a=some v):a.spot=none:=by
 unfold World.cell? at h
 split at h
 ·split at h
  ·cases h
  ·rename_i hs;simpa using hs
 ·cases h
theorem cells_one {a:Addr} {cs':List Value} (h:W.cells? base a 1=some cs'):∃ u,cs'=[u]∧W.cell? a=some u:=by
 obtain ⟨_,hl,hat⟩:=World.cells?_some h
 match cs',hl with
 | [u],_=>
  have:=hat 0 (by omega)
  have ha0:a.add 0=a:=by simp [Addr.add]
  rw [ha0] at this
  exact ⟨u,rfl,by simpa using this⟩
theorem cells_int:Try.prog.cellsOf 3=1:=by kernel_rfl
theorem open_num {fuel:Nat} {u:Value} {x:DataW H×List MemPlace} (h:DataW.trod enc Try.prog W base sp held fuel 3 [u]=some x):∃ q:Int,u=.int .i64 q∧(Lit.int .i64 q).wf=true:=by
 obtain ⟨q,hq,_,hw⟩:=DataW.trod_int Try.underlying3 h
 exact ⟨q,by simpa using hq,hw⟩
theorem open_row {t e:TypeId} (ht:Try.prog.underlying t=some (.slice e)) (he:Try.prog.cellsOf e=1) {fuel:Nat} {v:Value} {x:DataW H×List MemPlace} (h:DataW.trod enc Try.prog W base sp held fuel t [v]=some x) :
  ∃ (a:Option Addr) (len cap:Nat),v=.slice a len cap∧(len≤cap∧cap≤maxLen)∧∀ i,i < len→∃ (b off:Nat) (u:Value) (n:Nat) (y:DataW H×List MemPlace),a=some ⟨b,off,none⟩∧W.cell? ⟨b,off+i,none⟩=some u∧DataW.trod enc Try.prog W base sp held n e [u]=some y:=by
 rcases open_slice ht h with ⟨hcs,_⟩ | ⟨a,len,cap,m,n,D,Pl,hcs,_,hl,hm,hmm,_,hi⟩
 ·exact ⟨none,0,0,by simpa using hcs,⟨Nat.zero_le _,Nat.zero_le _⟩,fun i hi=>absurd hi (Nat.not_lt_zero _)⟩
 ·obtain rfl:v=.slice (some a) len cap:=by simpa using hcs
  have hlm:len≤m:=by rw [hmm];split<;>omega
  refine ⟨some a,len,cap,rfl,⟨hl,hm⟩,fun i hil=>?_⟩
  clear hm
  obtain ⟨cs0,hc0,_⟩:=hi 0 (by omega)
  rw [he] at hc0
  obtain ⟨u0,_,hcell0⟩:=cells_one hc0
  have hs:a.spot=none:=by
   have e0:a.add (0*1)=a:=by simp [Addr.add]
   rw [e0] at hcell0
   exact spot_none hcell0
  obtain ⟨cs1,hc1,ht1⟩:=hi i (by omega)
  rw [he] at hc1
  obtain ⟨u,rfl,hcell⟩:=cells_one hc1
  rw [addr_add a _ hs,Nat.mul_one] at hcell
  refine ⟨a.block,a.off,u,n,_,?_,hcell,ht1⟩
  obtain ⟨b,o,s⟩:=a
  simp only at hs
  rw [hs]
theorem open_nums {fuel:Nat} {v:Value} {x:DataW H×List MemPlace} (h:DataW.trod enc Try.prog W base sp held fuel 22 [v]=some x):∃ l:List Int,IntsV W v l∧Fit v∧l.length≤maxLen:=by
 obtain ⟨a,len,cap,rfl,hlen,hi⟩:=open_row Try.underlying22 cells_int h
 have hex:∀ i,∃ q:Int,i < len→(Lit.int .i64 q).wf=true∧∃ b off,a=some ⟨b,off,none⟩∧W.cell? ⟨b,off+i,none⟩=some (.int .i64 q):=fun i=>by
  by_cases hil:i < len
  ·obtain ⟨b,off,u,n,y,ha,hc,ht⟩:=hi i hil
   obtain ⟨q,rfl,hw⟩:=open_num ht
   exact ⟨q,fun _=>⟨hw,b,off,ha,hc⟩⟩
  ·exact ⟨0,fun h=>absurd h hil⟩
 refine ⟨(List.range len).map fun i=>(hex i).choose,⟨a,cap,by simp,fun i c hic=>?_⟩,(fun a' n' c' e=>by cases e;exact hlen),by simpa using Nat.le_trans hlen.1 hlen.2⟩
 have hil:i < len:=by simpa using (List.getElem?_eq_some_iff.1 hic).1
 rw [List.getElem?_map,List.getElem?_range hil,Option.map_some] at hic
 rw [← Option.some.inj hic]
 exact (hex i).choose_spec hil
end
end Go.Proofs.Ytiaeagpepfmfgaa
namespace Go.Proofs.Ytiaeagpepfmfgaa
open Go.RowKit Go.Maps
set_option linter.unusedSimpArgs false
set_option linter.unusedVariables false
theorem opr_lvl {x:Sec} (h:lvl x≠0):(opr x).2≠0:=by
 have h0:x∈[[124,124],[38,38],[60],[60,61],[62],[62,61],[61,61],[33,61],[43],[45],[42],[47],[37]]:=by
  apply Classical.byContradiction
  intro hn
  simp only [List.mem_cons,List.not_mem_nil,or_false,not_or] at hn
  refine h ?_
  unfold lvl
  simp only [hn,if_false,or_self]
 have key:∀ y∈([[124,124],[38,38],[60],[60,61],[62],[62,61],[61,61],[33,61],[43],[45],[42],[47],[37]]:List Sec),(opr y).2≠0:=by decide
 exact key x h0
theorem sizeE_mk (k n:Int) (nm:Sec) (xs:List E) (p:Int):sizeE (.mk k n nm xs p)=1+sizeL xs:=by conv=>lhs;unfold sizeE
theorem sizeL_nil:sizeL []=0:=by unfold sizeL;rfl
theorem sizeL_cons (e:E) (es:List E):sizeL (e :: es)=sizeE e+sizeL es:=by conv=>lhs;unfold sizeL
theorem sizeS_mk (k:Int) (nm:Sec) (xs:List E) (n:Int) (bd els:List St) (p:Int):sizeS (.mk k nm xs n bd els p)=1+sizeL xs+sizeSs bd+sizeSs els:=by conv=>lhs;unfold sizeS
theorem sizeSs_nil:sizeSs []=0:=by unfold sizeSs;rfl
theorem sizeSs_cons (e:St) (es:List St):sizeSs (e :: es)=sizeS e+sizeSs es:=by conv=>lhs;unfold sizeSs
theorem wL_nil:wL []:=by unfold wL;trivial
theorem wL_one {e:E} (h:wE e):wL [e]:=by unfold wL;exact ⟨h,wL_nil⟩
theorem wL_two {e f:E} (h:wE e) (h2:wE f):wL [e,f]:=by unfold wL;exact ⟨h,wL_one h2⟩
theorem wB_nil:wB []:=by unfold wB;trivial
section
variable {ts:List Tok}
theorem whole_expr (hx:∀ i,(xAt ts i).length≤65536):∀ f:Nat,
  (∀ i least dp e a,exprR ts f i least dp=.ok (e,a)→wE e∧sizeE e+i≤a)∧(∀ l i least most dp e a,wE l→loopR ts f l i least most dp=.ok (e,a)→wE e∧sizeE e+i≤a+sizeE l)∧
  (∀ i dp e a,smallR ts f i dp=.ok (e,a)→wE e∧sizeE e+i≤a)∧(∀ i dp b c e a,aroundR ts f i dp b c=.ok (e,a)→wE e∧sizeE e+i+2≤a):=by
 intro f
 induction f with
 | zero=>
  refine ⟨fun i _ _ e a h=>?_,fun _ i _ _ _ e a _ h=>?_,fun i _ e a h=>?_,fun i _ _ _ e a h=>?_⟩
  ·unfold exprR at h;cases h
  ·unfold loopR at h;cases h
  ·unfold smallR at h;cases h
  ·unfold aroundR at h;cases h
 | succ f ih=>
  obtain ⟨ih1,ih2,ih3,ih4⟩:=ih
  refine ⟨fun i least dp e a h=>?_,fun l i least most dp e a hl h=>?_,fun i dp e a h=>?_,fun i dp b c e a h=>?_⟩
  ·unfold exprR at h
   split at h
   ·cases h
   ·rename_i l b hs
    obtain ⟨h1,h2⟩:=ih3 _ _ _ _ hs
    obtain ⟨h3,h4⟩:=ih2 _ _ _ _ _ _ _ h1 h
    exact ⟨h3,by omega⟩
  ·unfold loopR at h
   split at h
   ·rename_i hc
    split at h
    ·cases h
    ·rename_i r b hs
     obtain ⟨h1,h2⟩:=ih1 _ _ _ _ _ hs
     have hw:wE (.mk 6 0 (xAt ts i) [l,r] (pAt ts i)):=by
      unfold wE
      exact ⟨.inr (.inr ⟨rfl,rfl,opr_lvl (fun e=>hc.2 (.inr (.inr e)))⟩),hx i,wL_two hl h1⟩
     obtain ⟨h3,h4⟩:=ih2 _ _ _ _ _ _ _ hw h
     refine ⟨h3,?_⟩
     have:sizeE (.mk 6 0 (xAt ts i) [l,r] (pAt ts i))=1+(sizeE l+(sizeE r+0)):=by rw [sizeE_mk,sizeL_cons,sizeL_cons,sizeL_nil]
     omega
   ·cases h
    exact ⟨hl,by omega⟩
  ·unfold smallR at h
   split at h
   ·split at h
    ·cases h
    ·split at h
     ·cases h
     ·rename_i e' b hs
      cases h
      obtain ⟨h1,h2⟩:=ih3 _ _ _ _ hs
      refine ⟨?_,?_⟩
      ·unfold wE
       refine ⟨.inr (.inl ⟨?_,rfl⟩),by simp,wL_one h1⟩
       split<;>simp
      ·have:∀ k p,sizeE (.mk k 0 [] [e'] p)=1+(sizeE e'+0):=fun k p=>by rw [sizeE_mk,sizeL_cons,sizeL_nil]
       rw [this];omega
   ·split at h
    ·split at h
     ·cases h
     ·rename_i e' b hs
      cases h
      obtain ⟨h1,h2⟩:=ih4 _ _ _ _ _ _ hs
      refine ⟨?_,?_⟩
      ·unfold wE
       exact ⟨.inr (.inl ⟨.inl rfl,rfl⟩),by simp,wL_one h1⟩
      ·have:∀ k p,sizeE (.mk k 0 [] [e'] p)=1+(sizeE e'+0):=fun k p=>by rw [sizeE_mk,sizeL_cons,sizeL_nil]
       rw [this];omega
    ·split at h
     ·obtain ⟨h1,h2⟩:=ih4 _ _ _ _ _ _ h
      exact ⟨h1,by omega⟩
     ·have one:∀ k n s p,sizeE (.mk k n s [] p)=1:=fun k n s p=>by rw [sizeE_mk,sizeL_nil]
      split at h
      ·cases h
       refine ⟨?_,by rw [one];omega⟩
       unfold wE
       exact ⟨.inl ⟨.inl rfl,rfl⟩,by simp,wL_nil⟩
      ·split at h
       ·cases h
        refine ⟨?_,by rw [one];omega⟩
        unfold wE
        exact ⟨.inl ⟨.inr rfl,rfl⟩,hx i,wL_nil⟩
       ·split at h
        ·cases h
        ·rename_i s b hs
         cases h
         unfold wordT at hs
         split at hs
         ·cases hs
          refine ⟨?_,by rw [one];omega⟩
          unfold wE
          exact ⟨.inl ⟨.inr rfl,rfl⟩,hx i,wL_nil⟩
         ·cases hs
  ·unfold aroundR at h
   split at h
   ·cases h
   ·split at h
    ·split at h
     ·cases h
     ·rename_i e' b' hs
      split at h
      ·cases h
      ·rename_i a' he
       cases h
       obtain ⟨h1,h2⟩:=ih1 _ _ _ _ _ hs
       unfold eatT at he
       split at he
       ·cases he
        exact ⟨h1,by omega⟩
       ·cases he
    ·cases h
theorem whole_exprT (hx:∀ i,(xAt ts i).length≤65536) {i dp a:Nat} {e:E} (h:exprT ts i dp=.ok (e,a)):wE e∧sizeE e+i≤a:=(whole_expr hx _).1 _ _ _ _ _ h
theorem whole_aroundT (hx:∀ i,(xAt ts i).length≤65536) {i dp a:Nat} {e:E} (h:aroundT ts i dp=.ok (e,a)):wE e∧sizeE e+i≤a:=by
 obtain ⟨h1,h2⟩:=(whole_expr hx _).2.2.2 _ _ _ _ _ _ h
 exact ⟨h1,by omega⟩
theorem eatT_ok {i a:Nat} {x:Sec} (h:eatT ts i x=.ok a):a=i+1:=by
 unfold eatT at h
 split at h<;>cases h
 rfl
theorem wordT_ok {i a:Nat} {s:Sec} (h:wordT ts i=.ok (s,a)):s=xAt ts i∧a=i+1:=by
 unfold wordT at h
 split at h<;>cases h
 exact ⟨rfl,rfl⟩
theorem numT_ok {i a:Nat} {n:Int} (h:numT ts i=.ok (n,a)):kAt ts i=2∧n=numW (xAt ts i)∧a=i+1:=by
 unfold numT at h
 split at h<;>cases h
 rename_i hk
 exact ⟨hk,rfl,rfl⟩
theorem wS_two {k:Int} (hk:k=2∨k=3∨k=4∨k=5) {l r:E} (h1:wE l) (h2:wE r) (p:Int):wS (.mk k [] [l,r] 0 [] [] p):=by
 unfold wS
 exact ⟨.inr (.inl ⟨hk,rfl⟩),by simp,wL_two h1 h2,wB_nil,wB_nil⟩
theorem sizeS_two (k:Int) (l r:E) (p:Int):sizeS (.mk k [] [l,r] 0 [] [] p)=1+(sizeE l+(sizeE r+0))+0+0:=by rw [sizeS_mk,sizeL_cons,sizeL_cons,sizeL_nil,sizeSs_nil]
theorem sizeS_one (k:Int) (nm:Sec) (e:E) (bd els:List St) (p:Int):sizeS (.mk k nm [e] 0 bd els p)=1+(sizeE e+0)+sizeSs bd+sizeSs els:=by rw [sizeS_mk,sizeL_cons,sizeL_nil]
theorem sizeS_none (k:Int) (nm:Sec) (n:Int) (bd:List St) (p:Int):sizeS (.mk k nm [] n bd [] p)=1+0+sizeSs bd+0:=by rw [sizeS_mk,sizeL_nil,sizeSs_nil]
theorem whole_cell (hx:∀ i,(xAt ts i).length≤65536) {i dp a:Nat} {s:St} (h:cellR ts i dp=.ok (s,a)):wS s∧sizeS s+i≤a:=by
 unfold cellR at h
 split at h
 ·cases h
 ·rename_i l b hl
  obtain ⟨h1,h2⟩:=whole_aroundT hx hl
  split at h
  ·split at h
   ·cases h
   ·rename_i r c hr
    obtain ⟨h3,h4⟩:=whole_exprT hx hr
    split at h
    ·cases h
    ·rename_i c' hc
     cases h
     have:=eatT_ok hc
     refine ⟨wS_two ?_ h1 h3 _,by rw [sizeS_two];omega⟩
     split
     ·exact .inl rfl
     ·split
      ·exact .inr (.inl rfl)
      ·exact .inr (.inr (.inl rfl))
  ·split at h
   ·split at h
    ·cases h
    ·rename_i r c hr
     obtain ⟨h3,h4⟩:=whole_aroundT hx hr
     split at h
     ·cases h
     ·rename_i c' hc
      cases h
      have:=eatT_ok hc
      exact ⟨wS_two (.inr (.inr (.inr rfl))) h1 h3 _,by rw [sizeS_two];omega⟩
   ·cases h
theorem whole_let (hx:∀ i,(xAt ts i).length≤65536) {i dp a:Nat} {s:St} (h:letR ts i dp=.ok (s,a)):wS s∧sizeS s+i≤a:=by
 unfold letR at h
 split at h
 ·cases h
 ·rename_i nm b hw
  obtain ⟨rfl,rfl⟩:=wordT_ok hw
  split at h
  ·cases h
  ·rename_i c hc
   have:=eatT_ok hc
   split at h
   ·cases h
   ·rename_i e d he
    obtain ⟨h1,h2⟩:=whole_exprT hx he
    split at h
    ·cases h
    ·rename_i d' hd
     have:=eatT_ok hd
     cases h
     refine ⟨?_,by rw [sizeS_one,sizeSs_nil];omega⟩
     unfold wS
     exact ⟨.inl ⟨.inl rfl,rfl⟩,hx _,wL_one h1,wB_nil,wB_nil⟩
theorem whole_for (hx:∀ i,(xAt ts i).length≤65536) (hn:∀ i,kAt ts i=2→0≤numW (xAt ts i)) {i a:Nat} {s:Sec} {n:Int} (h:forR ts i=.ok ((s,n),a)):s.length≤65536∧0≤n∧i+1≤a:=by
 unfold forR at h
 split at h
 ·cases h
 ·rename_i nm b hw
  obtain ⟨rfl,rfl⟩:=wordT_ok hw
  split at h
  ·cases h
  ·rename_i c hc
   have:=eatT_ok hc
   split at h
   ·cases h
   ·rename_i d hd
    have:=eatT_ok hd
    split at h
    ·cases h
    ·rename_i e he
     have:=eatT_ok he
     split at h
     ·cases h
     ·rename_i m g hg
      obtain ⟨h1,h2,h3⟩:=numT_ok hg
      cases h
      exact ⟨hx _,by rw [h2];exact hn _ h1,by omega⟩
theorem whole_stmt (hx:∀ i,(xAt ts i).length≤65536) (hn:∀ i,kAt ts i=2→0≤numW (xAt ts i)):∀ f:Nat,
  (∀ i dp s a,stmtR ts f i dp=.ok (s,a)→wS s∧sizeS s+i≤a)∧(∀ i dp l a,blockR ts f i dp=.ok (l,a)→wB l∧sizeSs l+i+2≤a)∧
  (∀ i dp l a,stmtsR ts f i dp=.ok (l,a)→wB l∧sizeSs l+i≤a):=by
 intro f
 induction f with
 | zero=>
  refine ⟨fun i _ e a h=>?_,fun i _ e a h=>?_,fun i _ e a h=>?_⟩
  ·unfold stmtR at h;cases h
  ·unfold blockR at h;cases h
  ·unfold stmtsR at h;cases h
 | succ f ih=>
  obtain ⟨ih1,ih2,ih3⟩:=ih
  refine ⟨fun i dp s a h=>?_,fun i dp l a h=>?_,fun i dp l a h=>?_⟩
  ·unfold stmtR at h
   split at h
   ·exact whole_cell hx h
   ·split at h
    ·exact whole_let hx h
    ·split at h
     ·split at h
      ·cases h
      ·rename_i e b he
       obtain ⟨h1,h2⟩:=whole_exprT hx he
       split at h
       ·cases h
       ·rename_i bd c hb
        obtain ⟨h3,h4⟩:=ih2 _ _ _ _ hb
        split at h
        ·split at h
         ·cases h
         ·rename_i els d hd
          obtain ⟨h5,h6⟩:=ih2 _ _ _ _ hd
          cases h
          refine ⟨?_,by rw [sizeS_one];omega⟩
          unfold wS
          exact ⟨.inl ⟨.inr rfl,rfl⟩,by simp,wL_one h1,h3,h5⟩
        ·cases h
         refine ⟨?_,by rw [sizeS_one,sizeSs_nil];omega⟩
         unfold wS
         exact ⟨.inl ⟨.inr rfl,rfl⟩,by simp,wL_one h1,h3,wB_nil⟩
     ·split at h
      ·split at h
       ·cases h
       ·rename_i x b hf
        obtain ⟨xs,xn⟩:=x
        obtain ⟨h1,h2,h3⟩:=whole_for hx hn hf
        split at h
        ·cases h
        ·rename_i bd c hb
         obtain ⟨h4,h5⟩:=ih2 _ _ _ _ hb
         cases h
         refine ⟨?_,by rw [sizeS_none];omega⟩
         unfold wS
         exact ⟨.inr (.inr ⟨.inl rfl,rfl,h2⟩),h1,wL_nil,h4,wB_nil⟩
      ·cases h
  ·unfold blockR at h
   split at h
   ·cases h
   ·split at h
    ·split at h
     ·cases h
     ·rename_i l' b hs
      obtain ⟨h1,h2⟩:=ih3 _ _ _ _ hs
      split at h
      ·cases h
      ·rename_i c hc
       have:=eatT_ok hc
       cases h
       exact ⟨h1,by omega⟩
    ·cases h
  ·unfold stmtsR at h
   split at h
   ·cases h
    exact ⟨wB_nil,by rw [sizeSs_nil];omega⟩
   ·split at h
    ·cases h
    ·rename_i s b hs
     obtain ⟨h1,h2⟩:=ih1 _ _ _ _ hs
     split at h
     ·cases h
     ·rename_i l' c hl
      obtain ⟨h3,h4⟩:=ih3 _ _ _ _ hl
      cases h
      refine ⟨by unfold wB;exact ⟨h1,h3⟩,?_⟩
      rw [sizeSs_cons]
      omega
theorem whole_params (hx:∀ i,(xAt ts i).length≤65536):∀ f i l a,paramsR ts f i=.ok (l,a)→(∀ nm∈l,nm.length≤65536)∧l.length+i≤a:=by
 intro f
 induction f with
 | zero=>intro i l a h;unfold paramsR at h;cases h
 | succ f ih=>
  intro i l a h
  unfold paramsR at h
  split at h
  ·cases h
  ·rename_i s b hw
   obtain ⟨rfl,rfl⟩:=wordT_ok hw
   split at h
   ·split at h
    ·cases h
    ·rename_i l' c hl
     obtain ⟨h1,h2⟩:=ih _ _ _ hl
     cases h
     refine ⟨fun nm hm=>?_,by simp;omega⟩
     rcases List.mem_cons.1 hm with rfl | hm
     ·exact hx i
     ·exact h1 nm hm
   ·cases h
    exact ⟨fun nm hm=>by rw [List.mem_singleton.1 hm];exact hx i,by simp;omega⟩
theorem whole_needs (hx:∀ i,(xAt ts i).length≤65536):∀ f i l a,needsR ts f i=.ok (l,a)→wL l∧sizeL l+i≤a:=by
 intro f
 induction f with
 | zero=>intro i l a h;unfold needsR at h;cases h
 | succ f ih=>
  intro i l a h
  unfold needsR at h
  split at h
  ·split at h
   ·cases h
   ·rename_i e b he
    obtain ⟨h1,h2⟩:=whole_exprT hx he
    split at h
    ·cases h
    ·rename_i c hc
     have:=eatT_ok hc
     split at h
     ·cases h
     ·rename_i l' d hl
      obtain ⟨h3,h4⟩:=ih _ _ _ hl
      cases h
      refine ⟨by unfold wL;exact ⟨h1,h3⟩,?_⟩
      rw [sizeL_cons]
      omega
  ·cases h
   exact ⟨wL_nil,by rw [sizeL_nil];omega⟩
theorem whole_body (hx:∀ i,(xAt ts i).length≤65536) (hn:∀ i,kAt ts i=2→0≤numW (xAt ts i)):∀ f i l a,bodyR ts f i=.ok (l,a)→wB l∧sizeSs l+i≤a:=by
 intro f
 induction f with
 | zero=>intro i l a h;unfold bodyR at h;cases h
 | succ f ih=>
  intro i l a h
  unfold bodyR at h
  split at h
  ·cases h
   exact ⟨wB_nil,by rw [sizeSs_nil];omega⟩
  ·split at h
   ·cases h
   ·rename_i s b hs
    obtain ⟨h1,h2⟩:=(whole_stmt hx hn _).1 _ _ _ _ hs
    split at h
    ·cases h
    ·rename_i l' d hl
     obtain ⟨h3,h4⟩:=ih _ _ _ hl
     cases h
     refine ⟨by unfold wB;exact ⟨h1,h3⟩,?_⟩
     rw [sizeSs_cons]
     omega
theorem whole_give (hx:∀ i,(xAt ts i).length≤65536) {i a:Nat} {l:List E} (h:giveR ts i=.ok (l,a)):wL l∧sizeL l+i≤a∧l.length≤1:=by
 unfold giveR at h
 split at h
 ·split at h
  ·cases h
  ·rename_i e b he
   obtain ⟨h1,h2⟩:=whole_exprT hx he
   split at h
   ·cases h
   ·rename_i c hc
    have:=eatT_ok hc
    cases h
    refine ⟨wL_one h1,?_,by simp⟩
    rw [sizeL_cons,sizeL_nil]
    omega
 ·cases h
  exact ⟨wL_nil,by rw [sizeL_nil];omega,by simp⟩
theorem whole_def (he:Ends ts) (hx:∀ i,(xAt ts i).length≤65536) (hn:∀ i,kAt ts i=2→0≤numW (xAt ts i)) (hl:ts.length≤482) {d:Df} {a:Nat} (h:defR ts=.ok (d,a)):Whole d:=by
 have hpos:=defR_pos he
 rw [h] at hpos
 have hpos:a < ts.length:=hpos
 unfold defR at h
 split at h
 ·cases h
 ·rename_i hd a1 hh
  split at h
  ·cases h
  ·rename_i ns a2 h2
   split at h
   ·cases h
   ·rename_i b a3 h3
    split at h
    ·cases h
    ·rename_i g a4 h4
     split at h
     ·cases h
     ·rename_i a5 h5
      have e5:=eatT_ok h5
      obtain ⟨n1,n2⟩:=whole_needs hx _ _ _ _ h2
      obtain ⟨b1,b2⟩:=whole_body hx hn _ _ _ _ h3
      obtain ⟨g1,g2,g3⟩:=whole_give hx h4
      have hp:(∀ nm∈hd.2,nm.length≤65536)∧hd.2.length+2≤a1:=by
       unfold headR at hh
       split at hh
       ·cases hh
       ·split at hh
        ·cases hh
        ·split at hh
         ·cases hh
         ·split at hh
          ·cases hh
          ·rename_i ps c hps
           split at hh
           ·cases hh
           ·rename_i c1 hc1
            have:=eatT_ok hc1
            split at hh
            ·cases hh
            ·rename_i c2 hc2
             have:=eatT_ok hc2
             cases hh
             unfold paramsT at hps
             split at hps
             ·cases hps
              exact ⟨fun nm hm=>absurd hm (by simp),by show 0+2≤_;omega⟩
             ·obtain ⟨p1,p2⟩:=whole_params hx _ _ _ _ hps
              exact ⟨p1,by show ps.length+2≤_;omega⟩
      cases h
      exact ⟨n1,b1,g1,g3,by show sizeL ns+sizeSs b+sizeL g≤480;omega,hp.1,by show hd.2.length≤480;omega⟩
end
theorem wrap64_id {n:Int} (h0:-9223372036854775808≤n) (h1:n < 9223372036854775808):wrap64 n=n:=by unfold wrap64;omega
theorem valN_mono (l:Sec):∀ acc:Nat,acc≤valN acc l:=by
 induction l with
 | nil=>intro acc;exact Nat.le_refl _
 | cons c r ih=>intro acc;have:=ih (acc*10+(c.toNat - 48));show acc≤valN (acc*10+(c.toNat - 48)) r;omega
theorem numW_val:∀ (l:Sec) (acc:Nat),(∀ c∈l,isDig c=true)→valN acc l < 9223372036854775808→l.foldl (fun n c=>wrap64 (wrap64 (10*n)+((c.toNat:Int) - 48) % 256)) (acc:Int)=(valN acc l:Int):=by
 intro l
 induction l with
 | nil=>intro acc _ _;rfl
 | cons c r ih=>
  intro acc hd hv
  have hv':valN (acc*10+(c.toNat - 48)) r < 9223372036854775808:=hv
  have h1:=valN_mono r (acc*10+(c.toNat - 48))
  have hc:=hd c (by simp)
  simp only [isDig,Bool.and_eq_true,decide_eq_true_eq] at hc
  rw [List.foldl_cons,wrap64_id (n:=10*(acc:Int)) (by omega) (by omega),show ((c.toNat:Int) - 48) % 256=((c.toNat - 48:Nat):Int) by omega,wrap64_id (by omega) (by omega)]
  have:=ih (acc*10+(c.toNat - 48)) (fun x hx=>hd x (by simp [hx])) hv'
  rw [show 10*(acc:Int)+((c.toNat - 48:Nat):Int)=((acc*10+(c.toNat - 48):Nat):Int) by omega]
  exact this
theorem firstN_num {x:Sec} (h:firstN x=(2,x.length)) (hx:x≠[]):(∀ c∈x,isDig c=true)∧valN 0 x < 9223372036854775808:=by
 have hp:=List.length_pos_iff.2 hx
 unfold firstN at h
 split at h
 ·cases h
 ·split at h
  ·rename_i h1 h2
   have hn:numN x=x.length:=(Prod.mk.inj h).2
   unfold numN at hn
   split at hn
   ·omega
   ·rename_i hq
    have hr:=hn
    refine ⟨fun c hc=>?_,?_⟩
    ·obtain ⟨i,hi,rfl⟩:=List.getElem_of_mem hc
     exact runN_all isDig x i _ (by omega) (List.getElem?_eq_getElem hi)
    ·rw [hr,List.take_length] at hq
     omega
  ·cases h
theorem chain_at:∀ {ts:List Tok},Chain ts→∀ i:Nat,i+1 < ts.length→(xAt ts i)≠[]∧firstN (xAt ts i)=(kAt ts i,(xAt ts i).length)
 | [],h,i,hi=>by simp at hi
 | t :: ts,h,i,hi=>by
  unfold Chain at h
  rcases h with ⟨rfl,_,_⟩ | ⟨h1,h2,h3⟩
  ·simp at hi
  ·cases i with
   | zero=>exact ⟨h1,h2⟩
   | succ i=>
    have:=chain_at h3 i (by simpa using hi)
    unfold xAt kAt at this⊢
    simpa using this
theorem lex_chain {l:Sec} {ts:List Tok} (h:lex l=.ok ts):Chain ts:=(chain_lex ts.length 0 l ts (Nat.le_refl _) (by rw [← h];exact (lex_eq l).symm)).1
theorem lex_num {l:Sec} {ts:List Tok} (h:lex l=.ok ts) (i:Nat) (hk:kAt ts i=2):0≤numW (xAt ts i):=by
 have he:=lex_ends h
 have hi:i < ts.length:=by
  apply Classical.byContradiction
  intro hc
  unfold kAt at hk
  rw [List.getElem?_eq_none (by omega)] at hk
  simp at hk
 have h1:=kAt_lt he hi (by rw [hk];decide)
 obtain ⟨h2,h3⟩:=chain_at (lex_chain h) i h1
 rw [hk] at h3
 obtain ⟨h4,h5⟩:=firstN_num h3 h2
 have:=numW_val (xAt ts i) 0 h4 h5
 unfold numW
 rw [show (0:Int)=((0:Nat):Int) from rfl,this]
 omega
theorem parse_whole {l:Sec} {d:Df} (h:parseS l=.ok d):Whole d:=by
 unfold parseS at h
 split at h
 ·cases h
 ·rename_i hl
  split at h
  ·cases h
  ·rename_i ts hlex
   split at h
   ·cases h
   ·rename_i d' hp
    cases h
    unfold parseR at hp
    split at hp
    ·cases hp
    ·rename_i d2 a hd
     split at hp
     ·cases hp
      have:=lex_len hlex
      exact whole_def (lex_ends hlex) (fun i=>by have:=lex_text hlex i;omega) (lex_num hlex) (by omega) hd
     ·cases hp
mutual
theorem wE_ok:∀ e:E,wE e→okE e
 | .mk k n s xs p,h=>by
  unfold wE at h
  unfold okE
  refine ⟨h.2.1,fun hk e=>?_,wL_ok xs h.2.2⟩
  subst e
  rcases h.1 with h1 | h1 | h1
  ·omega
  ·omega
  ·simp at h1
theorem wL_ok:∀ xs:List E,wL xs→okL xs
 | [],h=>by unfold okL;trivial
 | x :: xs,h=>by unfold wL at h;unfold okL;exact ⟨wE_ok x h.1,wL_ok xs h.2⟩
end
mutual
theorem wS_ok:∀ e:St,wS e→okS e
 | .mk k nm xs n bd els p,h=>by
  unfold wS at h
  unfold okS
  refine ⟨?_,?_,h.2.1,fun hk e=>?_,wL_ok xs h.2.2.1,wB_ok bd h.2.2.2.1,wB_ok els h.2.2.2.2⟩
  ·rcases h.1 with h1 | h1 | h1<;>omega
  ·rcases h.1 with h1 | h1 | h1<;>omega
  ·subst e
   rcases h.1 with h1 | h1 | h1
   ·simp at h1
   ·omega
   ·omega
theorem wB_ok:∀ xs:List St,wB xs→okSs xs
 | [],h=>by unfold okSs;trivial
 | x :: xs,h=>by unfold wB at h;unfold okSs;exact ⟨wS_ok x h.1,wB_ok xs h.2⟩
end
end Go.Proofs.Ytiaeagpepfmfgaa
namespace Go.Proofs.Ytiaeagpepfmfgaa
open Go.RowKit Go.Maps
set_option linter.unusedSimpArgs false
set_option linter.unusedVariables false
def parC:CS→List Sec→CS
 | s,[]=>s
 | s,n :: ns=>parC (s.declare n 1 0) ns
def paramsC (s:CS) (l:List Sec):CS:=if 8 < l.length then s.fail 15 0 else parC s l
theorem parC_drop {s:CS} {xs:List Sec} {j:Nat} {e:Sec} (hj:xs[j]?=some e):parC s (xs.drop j)=parC (s.declare e 1 0) (xs.drop (j+1)):=by
 obtain ⟨hlt,rfl⟩:=List.getElem?_eq_some_iff.1 hj
 rw [List.drop_eq_getElem_cons hlt]
 rfl
def modeC (s:CS):Int:=
 if wrap64 (wrap64 (s.ki 3+s.ki 4)+wrap64 (s.ki 2+s.ki 5))=0 then 1 else if wrap64 (s.ki 2+s.ki 5)=0∧s.cells=0 then 2 else 3
section
variable {w w':World} {g b1 b2:Nat} {s:CS} {B:Nat→Prop}
set_option maxRecDepth 100000 in
set_option maxHeartbeats 4000000 in
theorem cparams_any (h:CK w g b1 b2 s) {l:List Sec} {v:Value} (hv:NmV w B v l) (hl:∀ nm∈l,nm.length≤65536) (hll:l.length≤1000000) (hB:∀ k∈[g,b1,b2],¬ B k) :
  Calls Try.prog 64 #[.pointer (some ⟨g,0,none⟩),v] w fun en w'=>en=.returned (.tuple #[])∧CK w' g b1 b2 (paramsC s l)∧Only [g,b1,b2] w w':=by
 obtain ⟨a,cap,rfl,-,hx⟩:=hv
 have H:=Lib.hid h
 have HX:=Lib.hid hx
 have HLN:=Lib.hid hl
 have HB:=Lib.hid hB
 obtain ⟨n,hn⟩:∃ n,n=l.length:=⟨_,rfl⟩
 rw [← hn] at hll⊢
 by_cases h8:8 < n
 ·have hR:paramsC s l=s.fail 15 0:=by unfold paramsC;rw [if_pos (by omega)]
  have HR:=Lib.hid hR
  have h8':(8:Int) < (n:Int):=by omega
  clear h hx hl hB hn hR
  go_enter Try.func64,Try.ntmps64
  go_wp2_with fail
  refine (cfail_any H.out 15 0).mono ?_
  rintro en w2 ⟨rfl,hk,ho⟩
  have HK:=Lib.hid (And.intro hk ho)
  clear hk ho
  go_wp2_with fail
  (try simp only [Exit.inBlock,Exit.then])
  refine bodyPost_ret (results_none rfl _ _ _) rfl ?_
  rw [HR.out]
  exact ⟨rfl,HK.out.1,HK.out.2.mono (by simp)⟩
 ·have hR:paramsC s l=parC s l:=by unfold paramsC;rw [if_neg (by omega)]
  have HR:=Lib.hid hR
  have h8':¬ (8:Int) < (n:Int):=by omega
  have HN:=Lib.hid hn
  clear h hx hl hB hn hR
  go_enter Try.func64,Try.ntmps64
  go_wp2_with fail
  go_loopw [13] (fun ix wr=>∃ (j:Nat) (sj:CS),j≤n∧ix=.int .i64 (j:Int)∧Hid (parC s l=parC sj (l.drop j))∧Hid (CK wr g b1 b2 sj)∧Hid (Only [g,b1,b2] w wr)) (fun ix _=>n - (intOf ix).toNat)
  case atStart=>exact ⟨0,s,Nat.zero_le _,rfl,Lib.hid (by rw [List.drop_zero]),H,Lib.hid (Only.refl _ _)⟩
  case round=>
   obtain ⟨j,sj,hjn,rfl,HT,HK,HO⟩:=hrel
   by_cases hlt:j < n
   ·have hlt':(j:Int) < (n:Int):=by omega
    have j0:(0:Int)≤(j:Int):=by omega
    obtain ⟨e,he⟩:∃ e,l[j]?=some e:=⟨_,List.getElem?_eq_getElem (by rw [← HN.out];exact hlt)⟩
    obtain ⟨gr,rfl,hgr,hes⟩:∃ gr,a=some ⟨gr,0,none⟩∧B gr∧∀ i s,l[i]?=some s→w.cell? ⟨gr,i,none⟩=some (.string (strOf s)):=by
     rcases HX.out with hx | hx
     ·rw [hx] at he;simp at he
     ·exact hx
    have x0:wr.cell? ⟨gr,j,none⟩=some (.string (strOf e)):=cell_kept HO.out (hes j e he) (fun hk=>HB.out _ hk hgr)
    have hne:e.length≤65536:=HLN.out e (List.mem_of_getElem? he)
    have hstep:parC s l=parC (sj.declare e 1 0) (l.drop (j+1)):=by rw [HT.out,parC_drop he]
    have K1:=cdeclare_any HK.out e hne 1 0 wf1
    obtain ⟨sn,hsn⟩:∃ sn,sn=strOf e:=⟨_,rfl⟩
    rw [← hsn] at x0 K1
    have HST:=Lib.hid hstep
    clear hstep hsn hes he hne
    go_wp2_with fail
    refine K1.mono ?_
    rintro en w8 ⟨rfl,hk8,ho8⟩
    have HK8:=Lib.hid hk8
    have HO8:=Lib.hid (HO.out.trans ho8 (fun k hk=>.inl hk))
    clear hk8 ho8 K1 x0
    go_wp2_with fail
    refine ⟨⟨j+1,_,by omega,rfl,HST,HK8,HO8⟩,?_⟩
    simp [intOf]
    omega
   ·obtain rfl:j=n:=by omega
    have hT:=HT.out
    have hR:parC s l=sj:=by
     rw [hT,HN.out,List.drop_length]
     rfl
    have HR2:=Lib.hid hR
    clear hT hR
    go_wp2_with fail
    go_end0
    rw [HR.out,HR2.out]
    exact ⟨rfl,HK.out,HO.out⟩
set_option maxRecDepth 100000 in
set_option maxHeartbeats 4000000 in
theorem cmode_any (h:CK w g b1 b2 s):Calls Try.prog 69 #[.pointer (some ⟨g,0,none⟩)] w fun en w'=>en=.returned (.int .i64 (modeC s))∧Only [] w w':=by
 obtain ⟨fv,h1,h2⟩:=h.row
 have k2:w.cell? ⟨g,4,none⟩=some (.int .i64 (s.ki 2)):=cell_at 4 h1
 have k3:w.cell? ⟨g,5,none⟩=some (.int .i64 (s.ki 3)):=cell_at 5 h1
 have k4:w.cell? ⟨g,6,none⟩=some (.int .i64 (s.ki 4)):=cell_at 6 h1
 have k5:w.cell? ⟨g,7,none⟩=some (.int .i64 (s.ki 5)):=cell_at 7 h1
 have kc:w.cell? ⟨g,11,none⟩=some (.int .i64 s.cells):=cell_at 11 h1
 obtain ⟨R,hR⟩:∃ R,R=modeC s:=⟨_,rfl⟩
 rw [← hR]
 unfold modeC at hR
 generalize s.ki 2=x2 at k2 hR
 generalize s.ki 3=x3 at k3 hR
 generalize s.ki 4=x4 at k4 hR
 generalize s.ki 5=x5 at k5 hR
 generalize s.cells=xc at kc hR
 have HR:=Lib.hid hR
 clear h h1 h2 hR
 go_enter Try.func69,Try.ntmps69
 go_wp2_with fail
 go_quiet (fail)
 go_wp2_with fail
 have oq:=only_drewN' (n:=nq) (Only.refl [] w)
 have HQ:=Lib.hid oq
 have k2':(w.drewN nq).cell? ⟨g,4,none⟩=some (.int .i64 x2):=cell_kept oq k2 (by simp)
 have k5':(w.drewN nq).cell? ⟨g,7,none⟩=some (.int .i64 x5):=cell_kept oq k5 (by simp)
 have kc':(w.drewN nq).cell? ⟨g,11,none⟩=some (.int .i64 xc):=cell_kept oq kc (by simp)
 clear k2 k3 k4 k5 kc oq
 generalize w.drewN nq=w1 at HQ k2' k5' kc'⊢
 clear nq
 generalize wrap64 (x3+x4)=ad at HR⊢
 go_quiet (fail)
 have oq:=only_drewN' (n:=nq) (Only.refl [] w1)
 have HQ2:=Lib.hid (HQ.out.trans oq (by simp))
 have kc2:(w1.drewN nq).cell? ⟨g,11,none⟩=some (.int .i64 xc):=cell_kept oq kc' (by simp)
 clear k2' k5' kc' oq
 generalize w1.drewN nq=w2 at HQ2 kc2⊢
 clear nq
 generalize wrap64 (x2+x5)=ot at HR⊢
 by_cases hs:wrap64 (ad+ot)=0
 ·have hRR:R=1:=by rw [HR.out,if_pos hs]
  have HRR:=Lib.hid hRR
  clear hRR
  go_wp2_with fail
  go_ret
  rw [HRR.out];exact ⟨rfl,HQ2.out⟩
 ·have hs':(wrap64 (ad+ot) == 0)=false:=by simpa using hs
  by_cases ho:ot=0
  ·by_cases hc:xc=0
   ·have hRR:R=2:=by rw [HR.out,if_neg hs,if_pos ⟨ho,hc⟩]
    have HRR:=Lib.hid hRR
    have ho1:(ot == 0)=true:=by simp [ho]
    have hc1:(xc == 0)=true:=by simp [hc]
    clear hRR ho hc
    go_wp2_with fail
    go_ret
    rw [HRR.out];exact ⟨rfl,HQ2.out⟩
   ·have hRR:R=3:=by rw [HR.out,if_neg hs,if_neg (fun e=>hc e.2)]
    have HRR:=Lib.hid hRR
    have hc':(xc == 0)=false:=by simpa using hc
    have ho1:(ot == 0)=true:=by simp [ho]
    clear hRR ho
    go_wp2_with fail
    go_ret
    rw [HRR.out];exact ⟨rfl,HQ2.out⟩
  ·have hRR:R=3:=by rw [HR.out,if_neg hs,if_neg (fun e=>ho e.1)]
   have HRR:=Lib.hid hRR
   have ho':(ot == 0)=false:=by simpa using ho
   clear hRR
   go_wp2_with fail
   go_ret
   rw [HRR.out];exact ⟨rfl,HQ2.out⟩
end
end Go.Proofs.Ytiaeagpepfmfgaa
namespace Go.Proofs.Ytiaeagpepfmfgaa
open Go.RowKit Go.Maps
set_option linter.unusedSimpArgs false
set_option linter.unusedVariables false
def opT (s:CS) (d:Df):CS:=typedC (paramsC s d.params) 2 d.needs
def opB (s:CS) (d:Df):CS:=stmtsC (opT s d) d.body
def opG (s:CS) (d:Df):CS:=typedC (opB s d) 1 d.give
def opS (s:CS) (d:Df):CS:=if (opG s d).flt.isSome=true then opG s d else if 2048 < stD d then (opG s d).fail 11 0 else opG s d
structure InfoR where
 mode:Int
 steps:Nat
 names:Nat
 turns:Bool
def opI (s:CS) (d:Df):InfoR:=⟨modeC (opS s d),stD d,(opS s d).decl.length,(opS s d).ki 2 == 0 && wrap64 ((opB s d).cells - (opT s d).cells) == 0⟩
theorem four_set {W:World} {g:Nat} {z0 z1 z2 z3:Value} {t:TypeId} (h:W.heap[g]?=some (.cells #[z0,z1,z2,z3] t (0,0))) (v0 v1 v2 v3:Value) :
  ((((W.setCell ⟨g,0,none⟩ v0).setCell ⟨g,1,none⟩ v1).setCell ⟨g,2,none⟩ v2).setCell ⟨g,3,none⟩ v3).heap[g]?=some (.cells #[v0,v1,v2,v3] t (0,0)):=
 heap_cell (i:=3) v3 (heap_cell (i:=2) v2 (heap_cell (i:=1) v1 (heap_cell (i:=0) v0 h)))
theorem res_operation (tmps:Array Value) (w:World) (g:Nat) (v0 v1 v2 v3:Value) (h6:tmps.getD 4 undef=.pointer (some ⟨g,0,none⟩)) (h:w.heap[g]?=some (.cells #[v0,v1,v2,v3] 47 (0,0))) :
  (results Try.f46 tmps).run Try.prog w=.ok (.agg #[v0,v1,v2,v3]) w:=by
 have c0:w.cell? ⟨g,0,none⟩=some v0:=cell_at 0 h
 have c1:w.cell? ⟨g,1,none⟩=some v1:=cell_at 1 h
 have c2:w.cell? ⟨g,2,none⟩=some v2:=cell_at 2 h
 have c3:w.cell? ⟨g,3,none⟩=some v3:=cell_at 3 h
 have hl:(loadVar 47 ⟨g,0,none⟩).run Try.prog w=.ok (.agg #[v0,v1,v2,v3]) w:=by
  clear h
  simp [go_sem,c0,c1,c2,c3]
 have h6':tmps[4]?.getD undef=.pointer (some ⟨g,0,none⟩):=by simpa using h6
 simp [results,Try.results46,asAddr,h6',hl]
theorem CK.past {w w':World} {g b1 b2:Nat} {s:CS} {S:List Nat} (h:CK w g b1 b2 s) (ho:Only S w w') (hS:∀ k∈S,k∉[g,b1,b2]) (hs:∀ k∈S,∀ o,w.heap[k]?=some o→∀ cs fr,o≠.cells cs 108 fr):CK w' g b1 b2 s:=by
 obtain ⟨fv,h1,h2⟩:=h.row
 obtain ⟨c,h3⟩:=h.known
 exact ⟨⟨fv,ho.heap h1 (fun hk=>hS g hk (by simp)),h2.kept ho hs⟩,⟨c,h3.kept ho (fun hk=>hS b1 hk (by simp))⟩,h.decl.kept ho (fun hk=>hS b2 hk (by simp)),h.len,h.ne,h.names⟩
section
variable {w w':World} {g b1 b2:Nat} {s:CS} {B:Nat→Prop}
set_option maxRecDepth 100000 in
set_option maxHeartbeats 16000000 in
theorem coperation_any (h:CK w g b1 b2 s) {d:Df} {cs:List Value} (hd:DV w B d cs) (hB:∀ k∈[g,b1,b2],¬ B k) (hp:∀ nm∈d.params,nm.length≤65536) (hpl:d.params.length≤1000000)
  (hn:okL d.needs) (hb:okSs d.body) (hg:okL d.give) (h1:sizeL d.needs≤1000000) (h2:sizeSs d.body≤1000000) (h3:sizeL d.give≤1000000) (hf:(opG s d).flt=none→fewB d.body) :
  Calls Try.prog 46 #[.pointer (some ⟨g,0,none⟩),.agg cs.toArray] w fun en w'=>∃ (m st nm:Int) (tu:Bool),en=.returned (.agg #[.int .i64 m,.int .i64 st,.int .i64 nm,.bool tu])∧CK w' g b1 b2 (opS s d)∧
   ((opS s d).flt=none→m=(opI s d).mode∧st=(opI s d).steps∧nm=(opI s d).names∧tu=(opI s d).turns)∧Only [g,b1,b2] w w':=by
 obtain ⟨v1,v2,v3,v4,rfl,hv1,hv2,hv3,hv4⟩:=hd
 obtain ⟨a1,c1,rfl,hx1⟩:=id hv1
 obtain ⟨a2,c2,rfl,hx2⟩:=id hv2
 obtain ⟨a3,c3,rfl,hx3⟩:=id hv3
 obtain ⟨a4,c4,rfl,hx4⟩:=id hv4
 have HDV:=Lib.hid (show DV w B d _ from ⟨_,_,_,_,rfl,hv1,hv2,hv3,hv4⟩)
 obtain ⟨sn,hsn⟩:∃ sn,sn=strOf d.name:=⟨_,rfl⟩
 obtain ⟨L1,hL1⟩:∃ L,L=d.params.length:=⟨_,rfl⟩
 obtain ⟨L2,hL2⟩:∃ L,L=d.needs.length:=⟨_,rfl⟩
 obtain ⟨L3,hL3⟩:∃ L,L=d.body.length:=⟨_,rfl⟩
 obtain ⟨L4,hL4⟩:∃ L,L=d.give.length:=⟨_,rfl⟩
 rw [← hsn,← hL1,← hL2,← hL3,← hL4] at HDV⊢
 rw [← hL1] at hv1
 rw [← hL2] at hv2
 rw [← hL3] at hv3
 rw [← hL4] at hv4
 have HV1:=Lib.hid hv1
 have HB:=Lib.hid hB
 have hgl:=h.g_lt
 have hb1l:=h.b1_lt
 have hb2l:=h.b2_lt
 have H:=Lib.hid h
 have HF:=Lib.hid hf
 clear hv1 hx1 hx2 hx3 hx4 hsn hL1 hL2 hL3 hL4 hB h hf
 go_enter Try.func46,Try.ntmps46
 go_wp2_with fail
 refine calls_two (fun w1 hY hZ o1=>?_)
 have HY:=Lib.hid hY
 have HZ:=Lib.hid hZ
 have hgw:w.heap.size∉[g,b1,b2]:=by simp only [List.mem_cons,List.not_mem_nil,or_false,not_or];omega
 have hgz:w.heap.size+1∉[g,b1,b2]:=by simp only [List.mem_cons,List.not_mem_nil,or_false,not_or];omega
 have HV2:=Lib.hid (hv2.quiet o1)
 have HV3:=Lib.hid (hv3.quiet o1)
 have HV4:=Lib.hid (hv4.quiet o1)
 have HO:=Lib.hid (o1.mono (T:=[g,b1,b2]) (by simp))
 have K1:=cparams_any (s:=s) (H.out.quiet o1) (HV1.out.kept o1 (by simp) (fun _ h=>h)) hp hpl HB.out
 clear hY hZ hv2 hv3 hv4 o1 hgl hb1l hb2l
 refine K1.mono ?_
 rintro en w2 ⟨rfl,hk,ho⟩
 have hsub:Only [g,b1,b2] w1 w2:=ho.mono (by simp)
 replace HY:=Lib.hid (hsub.heap HY.out hgw)
 replace HZ:=Lib.hid (hsub.heap HZ.out hgz)
 replace HO:=Lib.hid (HO.out.trans hsub (fun k hk=>.inl hk))
 replace HV2:=Lib.hid (HV2.out.kept hsub HB.out (fun _ h=>h))
 replace HV3:=Lib.hid (HV3.out.kept hsub HB.out (fun _ h=>h))
 replace HV4:=Lib.hid (HV4.out.kept hsub HB.out (fun _ h=>h))
 clear ho hsub
 have K2:=(cexpr_all 1000000 (by omega)).2 d.needs h1 w2 g b1 b2 _ _ B 2 hk hn HV2.out.esw (HB.out g (by simp))
 have y2:w2.cell? ⟨w.heap.size,2,none⟩=some (.slice a2 L2 c2):=cell_at 2 HY.out
 clear hk K1
 go_wp2_with fail
 refine K2.mono ?_
 rintro en w3 ⟨rfl,hk,ho⟩
 have hsub:Only [g,b1,b2] w2 w3:=ho.mono (by simp)
 replace HY:=Lib.hid (hsub.heap HY.out hgw)
 replace HZ:=Lib.hid (hsub.heap HZ.out hgz)
 replace HO:=Lib.hid (HO.out.trans hsub (fun k hk=>.inl hk))
 replace HV2:=Lib.hid (HV2.out.kept hsub HB.out (fun _ h=>h))
 replace HV3:=Lib.hid (HV3.out.kept hsub HB.out (fun _ h=>h))
 replace HV4:=Lib.hid (HV4.out.kept hsub HB.out (fun _ h=>h))
 clear ho hsub
 have K3:=(cstmts_all 1000000 (by omega)).2 d.body h2 w3 g b1 b2 _ _ B hk hb HV3.out HB.out
 have y3:w3.cell? ⟨w.heap.size,3,none⟩=some (.slice a3 L3 c3):=cell_at 3 HY.out
 obtain ⟨fv3,hr3,-⟩:=hk.row
 have kc3:w3.cell? ⟨g,11,none⟩=some (.int .i64 (opT s d).cells):=cell_at 11 hr3
 clear hk K2 y2 hr3
 obtain ⟨C3,hC3⟩:∃ C,C=(opT s d).cells:=⟨_,rfl⟩
 rw [← hC3] at kc3
 have HC3:=Lib.hid hC3
 clear hC3
 go_wp2_with fail
 refine K3.mono ?_
 rintro en w4 ⟨rfl,hk,ho⟩
 have hsub:Only [g,b1,b2] w3 w4:=ho.mono (by simp)
 replace HY:=Lib.hid (hsub.heap HY.out hgw)
 replace HZ:=Lib.hid (hsub.heap HZ.out hgz)
 replace HO:=Lib.hid (HO.out.trans hsub (fun k hk=>.inl hk))
 replace HV2:=Lib.hid (HV2.out.kept hsub HB.out (fun _ h=>h))
 replace HV3:=Lib.hid (HV3.out.kept hsub HB.out (fun _ h=>h))
 replace HV4:=Lib.hid (HV4.out.kept hsub HB.out (fun _ h=>h))
 clear ho hsub
 have K4:=(cexpr_all 1000000 (by omega)).2 d.give h3 w4 g b1 b2 _ _ B 1 hk hg HV4.out.esw (HB.out g (by simp))
 have y4:w4.cell? ⟨w.heap.size,4,none⟩=some (.slice a4 L4 c4):=cell_at 4 HY.out
 obtain ⟨fv4,hr4,-⟩:=hk.row
 have kc4:w4.cell? ⟨g,11,none⟩=some (.int .i64 (opB s d).cells):=cell_at 11 hr4
 clear hk K3 y3 hr4 kc3
 obtain ⟨C4,hC4⟩:∃ C,C=(opB s d).cells:=⟨_,rfl⟩
 rw [← hC4] at kc4
 have HC4:=Lib.hid hC4
 clear hC4
 go_wp2_with fail
 refine K4.mono ?_
 rintro en w5 ⟨rfl,hk,ho⟩
 have hsub:Only [g,b1,b2] w4 w5:=ho.mono (by simp)
 replace HY:=Lib.hid (hsub.heap HY.out hgw)
 replace HZ:=Lib.hid (hsub.heap HZ.out hgz)
 replace HO:=Lib.hid (HO.out.trans hsub (fun k hk=>.inl hk))
 replace HV2:=Lib.hid (HV2.out.kept hsub HB.out (fun _ h=>h))
 replace HV3:=Lib.hid (HV3.out.kept hsub HB.out (fun _ h=>h))
 replace HV4:=Lib.hid (HV4.out.kept hsub HB.out (fun _ h=>h))
 clear ho hsub
 have hk5:CK w5 g b1 b2 (opG s d):=hk
 obtain ⟨fv5,hr5,hf5⟩:=hk5.row
 have kf5:w5.cell? ⟨g,12,none⟩=some (.pointer fv5):=cell_at 12 hr5
 have HK5:=Lib.hid hk5
 clear hk hk5 K4 y4 kc4 hr5
 cases hfl:(opG s d).flt with
 | some x=>
  rw [hfl] at hf5
  obtain ⟨xc,xp⟩:=x
  obtain ⟨fb,rfl,-⟩:=hf5
  have hS:opS s d=opG s d:=by unfold opS;rw [hfl];rfl
  have HS:=Lib.hid (And.intro hS hfl)
  clear hS hfl
  have s0:w5.cell? ⟨w.heap.size+1,0,none⟩=some (.int .i64 0):=cell_at 0 HZ.out
  have s1:w5.cell? ⟨w.heap.size+1,1,none⟩=some (.int .i64 0):=cell_at 1 HZ.out
  have s2:w5.cell? ⟨w.heap.size+1,2,none⟩=some (.int .i64 0):=cell_at 2 HZ.out
  have s3:w5.cell? ⟨w.heap.size+1,3,none⟩=some (.bool false):=cell_at 3 HZ.out
  have gs0:=free_at 0 HZ.out
  have gs1:=free_at 1 HZ.out
  have gs2:=free_at 2 HZ.out
  have gs3:=free_at 3 HZ.out
  go_wp2_with fail
  have oz:Only [w.heap.size+1] w5 ((((w5.setCell ⟨w.heap.size+1,0,none⟩ (.int .i64 0)).setCell ⟨w.heap.size+1,1,none⟩ (.int .i64 0)).setCell ⟨w.heap.size+1,2,none⟩ (.int .i64 0)).setCell ⟨w.heap.size+1,3,none⟩ (.bool false)):=
   ((((Only.refl _ _).setCell (.inl (by simp)) _).setCell (.inl (by simp)) _).setCell (.inl (by simp)) _).setCell (.inl (by simp)) _
  have hz:=four_set HZ.out (.int .i64 0) (.int .i64 0) (.int .i64 0) (.bool false)
  generalize (((w5.setCell ⟨w.heap.size+1,0,none⟩ (.int .i64 0)).setCell ⟨w.heap.size+1,1,none⟩ (.int .i64 0)).setCell ⟨w.heap.size+1,2,none⟩ (.int .i64 0)).setCell ⟨w.heap.size+1,3,none⟩ (.bool false)=wz at oz hz⊢
  (try simp only [Exit.inBlock,Exit.then])
  refine bodyPost_ret (res_operation _ _ (w.heap.size+1) _ _ _ _ rfl hz) rfl ?_
  refine ⟨0,0,0,false,rfl,?_,fun e=>?_,?_⟩
  ·rw [HS.out.1]
   refine HK5.out.past oz (fun k hk=>by rw [List.mem_singleton.1 hk];exact hgz) (fun k hk o ho cs fr e=>?_)
   rw [List.mem_singleton.1 hk,HZ.out] at ho
   rw [← Option.some.inj ho] at e
   injection e with _ e2 _
   exact absurd e2 (by decide)
  ·rw [HS.out.1,HS.out.2] at e
   cases e
  ·exact HO.out.trans (T:=[w.heap.size+1]) oz (fun k hk=>.inr (by rw [List.mem_singleton.1 hk];omega))
 | none=>
  rw [hfl] at hf5
  obtain rfl:fv5=none:=hf5
  have hfew:=HF.out hfl
  have K5:=coperation_steps (w:=w5) (d:=d) (B:=B) (HDV.out.kept HO.out HB.out (fun _ h=>h)) h1 h2 h3 hfew
  have y0:w5.cell? ⟨w.heap.size,0,none⟩=some (.string sn):=cell_at 0 HY.out
  have y1:w5.cell? ⟨w.heap.size,1,none⟩=some (.slice a1 L1 c1):=cell_at 1 HY.out
  have y2:w5.cell? ⟨w.heap.size,2,none⟩=some (.slice a2 L2 c2):=cell_at 2 HY.out
  have y3:w5.cell? ⟨w.heap.size,3,none⟩=some (.slice a3 L3 c3):=cell_at 3 HY.out
  have y4:w5.cell? ⟨w.heap.size,4,none⟩=some (.slice a4 L4 c4):=cell_at 4 HY.out
  obtain ⟨T,hT⟩:∃ T,T=stD d:=⟨_,rfl⟩
  rw [← hT] at K5
  have HT:=Lib.hid hT
  have HFL:=Lib.hid hfl
  clear hT hfl hfew
  go_wp2_with fail
  refine K5.mono ?_
  rintro en w6 ⟨rfl,ho⟩
  have ho6:=ho
  replace ho:=ho.mono (T:=[g,b1,b2]) (by simp)
  have hsub:Only [g,b1,b2] w5 w6:=ho.mono (by simp)
  replace HY:=Lib.hid (hsub.heap HY.out hgw)
  replace HZ:=Lib.hid (hsub.heap HZ.out hgz)
  replace HO:=Lib.hid (HO.out.trans hsub (fun k hk=>.inl hk))
  replace HV2:=Lib.hid (HV2.out.kept hsub HB.out (fun _ h=>h))
  replace HV3:=Lib.hid (HV3.out.kept hsub HB.out (fun _ h=>h))
  replace HV4:=Lib.hid (HV4.out.kept hsub HB.out (fun _ h=>h))
  clear ho hsub
  have HK6:=Lib.hid (HK5.out.quiet ho6)
  clear K5 y0 y1 y2 y3 y4 kf5 ho6
  by_cases h20:2048 < T
  ·have h20':(2048:Int) < (T:Int):=by omega
   have hS:opS s d=(opG s d).fail 11 0:=by unfold opS;rw [HFL.out,← HT.out];simp [h20]
   have HS:=Lib.hid hS
   clear hS h20
   go_wp2_with fail
   refine (cfail_any HK6.out 11 0).mono ?_
   rintro en w7 ⟨rfl,hk,ho⟩
   have hsub:Only [g,b1,b2] w6 w7:=ho.mono (by simp)
   replace HY:=Lib.hid (hsub.heap HY.out hgw)
   replace HZ:=Lib.hid (hsub.heap HZ.out hgz)
   replace HO:=Lib.hid (HO.out.trans hsub (fun k hk=>.inl hk))
   replace HV2:=Lib.hid (HV2.out.kept hsub HB.out (fun _ h=>h))
   replace HV3:=Lib.hid (HV3.out.kept hsub HB.out (fun _ h=>h))
   replace HV4:=Lib.hid (HV4.out.kept hsub HB.out (fun _ h=>h))
   clear ho hsub
   have HK7:=Lib.hid (show CK w7 g b1 b2 (opS s d) by rw [HS.out];exact hk)
   clear hk
   go_wp2_with fail
   generalize hwi:wrap64 (C4 - C3)=wi
   have HWI:=Lib.hid hwi
   clear hwi
   obtain ⟨s7,hs7⟩:∃ s7,s7=opS s d:=⟨_,rfl⟩
   rw [← hs7] at HK7
   have HS7:=Lib.hid hs7
   clear hs7
   obtain ⟨N7,hN7⟩:∃ N7,N7=s7.decl.length:=⟨_,rfl⟩
   have HN7:=Lib.hid hN7
   obtain ⟨x2,hx2⟩:∃ x2,x2=s7.ki 2:=⟨_,rfl⟩
   have HX2:=Lib.hid hx2
   have hst:∀ W,CK W g b1 b2 s7→(W.cell? ⟨g,1,none⟩=some (.map (some b2))∧W.cell? ⟨g,4,none⟩=some (.int .i64 x2)∧∀ ty,(Builtin.len_ #[66] ty #[.map (some b2)]).run Try.prog W=.ok (.int .i64 (N7:Int)) W):=fun W hk=>by
    obtain ⟨fv,h1,h2⟩:=hk.row
    refine ⟨cell_at 1 h1,by rw [hx2];exact cell_at 4 h1,fun ty=>by rw [hN7];exact hk.decl.len Try.underlying66 ty⟩
   have HST:=Lib.hid hst
   clear hst hN7 hx2
   have oD:Only [] w7 w7.drew:=(Only.refl [] w7).drew
   by_cases hx0:x2=0
   ·have hx0':(x2 == 0)=true:=by simp [hx0]
    have HX0:=Lib.hid hx0
    clear hx0
    obtain ⟨tb,htb⟩:∃ tb,(wi == 0)=tb:=⟨_,rfl⟩
    have HTB:=Lib.hid htb
    refine wp_region_held_drew (S:=fun W=>W.cell? ⟨g,1,none⟩=some (.map (some b2))∧W.cell? ⟨g,4,none⟩=some (.int .i64 x2)∧∀ ty,(Builtin.len_ #[66] ty #[.map (some b2)]).run Try.prog W=.ok (.int .i64 (N7:Int)) W) (by kernel_rfl) (HST.out _ (HK7.out.quiet oD)) (fun hH=>?_)
    have HOD:=Lib.hid oD
    clear oD
    generalize w7.drew=wd at HOD hH⊢
    refine take_list (i:=0) (v:=?_) rfl (by kernel_rfl) (by kernel_rfl) (by kernel_rfl) (fun _ _ _ h=>h) (Or.inl ⟨by rfl,?_⟩) hH ?_
    rotate_left
    ·((intro w hSw;(try dsimp only at hSw);go_simp);try with_reducible rfl)
    simp only [Act.put,List.setIfInBounds_toArray,List.set_cons_zero,List.set_cons_succ]
    refine take_list (i:=2) (v:=?_) rfl (by kernel_rfl) (by kernel_rfl) (by kernel_rfl) (fun _ _ _ h=>h) (Or.inl ⟨by rfl,?_⟩) hH ?_
    rotate_left
    ·((intro w hSw;(try dsimp only at hSw);go_simp);try with_reducible rfl)
    simp only [Act.put,List.setIfInBounds_toArray,List.set_cons_zero,List.set_cons_succ]
    refine take_list (i:=3) (v:=?_) rfl (by kernel_rfl) (by kernel_rfl) (by kernel_rfl) (fun _ _ _ h=>h) (Or.inl ⟨by rfl,?_⟩) hH ?_
    rotate_left
    ·((intro w hSw;(try dsimp only at hSw);go_simp);try with_reducible rfl)
    simp only [Act.put,List.setIfInBounds_toArray,List.set_cons_zero,List.set_cons_succ]
    refine take_list (i:=4) (v:=?_) rfl (by kernel_rfl) (by kernel_rfl) (by kernel_rfl) (fun _ _ _ h=>h) (Or.inl ⟨by rfl,?_⟩) hH ?_
    rotate_left
    ·((intro w hSw;(try dsimp only at hSw);go_simp);try with_reducible rfl)
    simp only [Act.put,List.setIfInBounds_toArray,List.set_cons_zero,List.set_cons_succ]
    refine take_list (i:=5) (v:=?_) rfl (by kernel_rfl) (by kernel_rfl) (by kernel_rfl) (fun _ _ _ h=>h) (Or.inl ⟨by rfl,?_⟩) hH ?_
    rotate_left
    ·((intro w hSw;(try dsimp only at hSw);go_simp);try with_reducible rfl)
    simp only [Act.put,List.setIfInBounds_toArray,List.set_cons_zero,List.set_cons_succ]
    refine take_list (i:=6) (v:=?_) rfl (by kernel_rfl) (by kernel_rfl) (by kernel_rfl) (fun _ _ _ h=>h) (Or.inl ⟨by rfl,?_⟩) hH ?_
    rotate_left
    ·((intro w hSw;(try dsimp only at hSw);go_simp);try with_reducible rfl)
    simp only [Act.put,List.setIfInBounds_toArray,List.set_cons_zero,List.set_cons_succ]
    refine take_list (i:=8) (v:=?_) rfl (by kernel_rfl) (by kernel_rfl) (by kernel_rfl) (fun _ _ _ h=>h) (Or.inl ⟨by rfl,?_⟩) hH ?_
    rotate_left
    ·((intro w hSw;(try dsimp only at hSw);go_simp);try with_reducible rfl)
    simp only [Act.put,List.setIfInBounds_toArray,List.set_cons_zero,List.set_cons_succ]
    refine take_list (i:=9) (v:=?_) rfl (by kernel_rfl) (by kernel_rfl) (by kernel_rfl) (fun _ _ _ h=>h) (Or.inl ⟨by rfl,?_⟩) hH ?_
    rotate_left
    ·((intro w hSw;(try dsimp only at hSw);go_simp);try with_reducible rfl)
    simp only [Act.put,List.setIfInBounds_toArray,List.set_cons_zero,List.set_cons_succ]
    refine take_list (i:=10) (v:=?_) rfl (by kernel_rfl) (by kernel_rfl) (by kernel_rfl) (fun _ _ _ h=>h) (Or.inl ⟨by rfl,?_⟩) hH ?_
    rotate_left
    ·((intro w hSw;(try dsimp only at hSw);go_simp);try with_reducible rfl)
    simp only [Act.put,List.setIfInBounds_toArray,List.set_cons_zero,List.set_cons_succ]
    refine take_list (i:=11) (v:=?_) rfl (by kernel_rfl) (by kernel_rfl) (by kernel_rfl) (fun _ _ _ h=>h) (Or.inl ⟨by rfl,?_⟩) hH ?_
    rotate_left
    ·((intro w hSw;(try dsimp only at hSw);go_simp);try with_reducible rfl)
    simp only [Act.put,List.setIfInBounds_toArray,List.set_cons_zero,List.set_cons_succ]
    refine take_list (i:=12) (v:=?_) rfl (by kernel_rfl) (by kernel_rfl) (by kernel_rfl) (fun _ _ _ h=>h) (Or.inl ⟨by rfl,?_⟩) hH ?_
    rotate_left
    ·((intro w hSw;(try dsimp only at hSw);go_simp);try with_reducible rfl)
    simp only [Act.put,List.setIfInBounds_toArray,List.set_cons_zero,List.set_cons_succ]
    refine take_list (i:=13) (v:=?_) rfl (by kernel_rfl) (by kernel_rfl) (by kernel_rfl) (fun _ _ _ h=>h) (Or.inl ⟨by rfl,?_⟩) hH ?_
    rotate_left
    ·((intro w hSw;(try dsimp only at hSw);go_simp);try with_reducible rfl)
    simp only [Act.put,List.setIfInBounds_toArray,List.set_cons_zero,List.set_cons_succ]
    refine wpAnyH_ready (rs:=[1]) (by kernel_rfl) (by simp) ?_
    refine ready_list rfl (fun K hK=>?_)
    go_simp
    refine (cmode_any (HK7.out.quiet HOD.out)).mono ?_
    rintro en w8 ⟨rfl,ho8⟩
    have HO8:=Lib.hid (HOD.out.trans ho8 (by simp))
    refine hK.out _ _ (HST.out _ (HK7.out.quiet HO8.out)) (fun hH=>?_)
    clear hK K ho8
    refine take_list (i:=7) (v:=?_) rfl (by kernel_rfl) (by kernel_rfl) (by kernel_rfl) (fun _ _ _ h=>h) (Or.inl ⟨by rfl,?_⟩) hH ?_
    rotate_left
    ·((intro w hSw;(try dsimp only at hSw);go_simp);try with_reducible rfl)
    simp only [Act.put,List.setIfInBounds_toArray,List.set_cons_zero,List.set_cons_succ]
    refine take_list (i:=14) (v:=?_) rfl (by kernel_rfl) (by kernel_rfl) (by kernel_rfl) (fun _ _ _ h=>h) (Or.inl ⟨by rfl,?_⟩) hH ?_
    rotate_left
    ·((intro w hSw;(try dsimp only at hSw);go_simp);try with_reducible rfl)
    simp only [Act.put,List.setIfInBounds_toArray,List.set_cons_zero,List.set_cons_succ]
    refine take_list (i:=15) (v:=?_) rfl (by kernel_rfl) (by kernel_rfl) (by kernel_rfl) (fun _ _ _ h=>h) (Or.inl ⟨by rfl,?_⟩) hH ?_
    rotate_left
    ·((intro w hSw;(try dsimp only at hSw);go_simp);try with_reducible rfl)
    simp only [Act.put,List.setIfInBounds_toArray,List.set_cons_zero,List.set_cons_succ]
    refine take_list (i:=16) (v:=?_) rfl (by kernel_rfl) (by kernel_rfl) (by kernel_rfl) (fun _ _ _ h=>h) (Or.inl ⟨by rfl,?_⟩) hH ?_
    rotate_left
    ·((intro w hSw;(try dsimp only at hSw);go_simp);try with_reducible rfl)
    simp only [Act.put,List.setIfInBounds_toArray,List.set_cons_zero,List.set_cons_succ]
    refine take_list (i:=17) (v:=?_) rfl (by kernel_rfl) (by kernel_rfl) (by kernel_rfl) (fun _ _ _ h=>h) (Or.inl ⟨by rfl,?_⟩) hH ?_
    rotate_left
    ·((intro w hSw;(try dsimp only at hSw);go_simp);try with_reducible rfl)
    simp only [Act.put,List.setIfInBounds_toArray,List.set_cons_zero,List.set_cons_succ]
    refine take_list (i:=18) (v:=?_) rfl (by kernel_rfl) (by kernel_rfl) (by kernel_rfl) (fun _ _ _ h=>h) (Or.inl ⟨by rfl,?_⟩) hH ?_
    rotate_left
    ·((intro w hSw;(try dsimp only at hSw);go_simp);try with_reducible rfl)
    simp only [Act.put,List.setIfInBounds_toArray,List.set_cons_zero,List.set_cons_succ]
    have HZ8:=Lib.hid (HO8.out.heap HZ.out (by simp))
    have s0:w8.cell? ⟨w.heap.size+1,0,none⟩=some (.int .i64 0):=cell_at 0 HZ8.out
    have s1:w8.cell? ⟨w.heap.size+1,1,none⟩=some (.int .i64 0):=cell_at 1 HZ8.out
    have s2:w8.cell? ⟨w.heap.size+1,2,none⟩=some (.int .i64 0):=cell_at 2 HZ8.out
    have s3:w8.cell? ⟨w.heap.size+1,3,none⟩=some (.bool false):=cell_at 3 HZ8.out
    have gs0:=free_at 0 HZ8.out
    have gs1:=free_at 1 HZ8.out
    have gs2:=free_at 2 HZ8.out
    have gs3:=free_at 3 HZ8.out
    clear hH
    refine wpAnyH_ready (rs:=[19]) (by kernel_rfl) (by simp) ?_
    refine ready_list rfl (fun K hK=>?_)
    go_simp
    have oz:Only [w.heap.size+1] w8 ((((w8.setCell ⟨w.heap.size+1,0,none⟩ (.int .i64 (modeC s7))).setCell ⟨w.heap.size+1,1,none⟩ (.int .i64 (T:Int))).setCell ⟨w.heap.size+1,2,none⟩ (.int .i64 (N7:Int))).setCell ⟨w.heap.size+1,3,none⟩ (.bool tb)):=
     ((((Only.refl _ _).setCell (.inl (by simp)) _).setCell (.inl (by simp)) _).setCell (.inl (by simp)) _).setCell (.inl (by simp)) _
    have hz:=four_set HZ8.out (.int .i64 (modeC s7)) (.int .i64 (T:Int)) (.int .i64 (N7:Int)) (.bool tb)
    generalize (((w8.setCell ⟨w.heap.size+1,0,none⟩ (.int .i64 (modeC s7))).setCell ⟨w.heap.size+1,1,none⟩ (.int .i64 (T:Int))).setCell ⟨w.heap.size+1,2,none⟩ (.int .i64 (N7:Int))).setCell ⟨w.heap.size+1,3,none⟩ (.bool tb)=wz at oz hz⊢
    have hkz:CK wz g b1 b2 s7:=by
     refine (HK7.out.quiet HO8.out).past oz (fun k hk=>by rw [List.mem_singleton.1 hk];exact hgz) (fun k hk o ho cs fr e=>?_)
     rw [List.mem_singleton.1 hk,HZ8.out] at ho
     rw [← Option.some.inj ho] at e
     injection e with _ e2 _
     exact absurd e2 (by decide)
    refine hK.out _ _ (HST.out _ hkz) (fun hH=>?_)
    have HKZ:=Lib.hid hkz
    have HZZ:=Lib.hid hz
    have HOZ:=Lib.hid oz
    clear hK K hz hkz oz s0 s1 s2 s3 gs0 gs1 gs2 gs3
    refine wpAnyH_done (by kernel_rfl) ?_ _
    clear hH
    go_wp2_with fail
    (try simp only [Exit.inBlock,Exit.then])
    refine bodyPost_ret (res_operation _ _ (w.heap.size+1) _ _ _ _ rfl HZZ.out) rfl ?_
    refine ⟨modeC s7,T,N7,tb,rfl,by rw [← HS7.out];exact HKZ.out,fun _=>⟨by rw [HS7.out];rfl,by rw [HT.out];rfl,by rw [HN7.out,HS7.out];rfl,?_⟩,(HO.out.trans HO8.out (by simp)).trans (T:=[w.heap.size+1]) HOZ.out (fun k hk=>.inr (by rw [List.mem_singleton.1 hk];omega))⟩
    unfold opI
    dsimp only
    rw [← HS7.out,← HX2.out,HX0.out,← HC4.out,← HC3.out,HWI.out,HTB.out]
    simp
   ·have hx0':(x2 == 0)=false:=by simpa using hx0
    have HX0:=Lib.hid hx0'
    clear hx0
    refine wp_region_held_drew (S:=fun W=>W.cell? ⟨g,1,none⟩=some (.map (some b2))∧W.cell? ⟨g,4,none⟩=some (.int .i64 x2)∧∀ ty,(Builtin.len_ #[66] ty #[.map (some b2)]).run Try.prog W=.ok (.int .i64 (N7:Int)) W) (by kernel_rfl) (HST.out _ (HK7.out.quiet oD)) (fun hH=>?_)
    have HOD:=Lib.hid oD
    clear oD
    generalize w7.drew=wd at HOD hH⊢
    refine take_list (i:=0) (v:=?_) rfl (by kernel_rfl) (by kernel_rfl) (by kernel_rfl) (fun _ _ _ h=>h) (Or.inl ⟨by rfl,?_⟩) hH ?_
    rotate_left
    ·((intro w hSw;(try dsimp only at hSw);go_simp);try with_reducible rfl)
    simp only [Act.put,List.setIfInBounds_toArray,List.set_cons_zero,List.set_cons_succ]
    refine take_list (i:=2) (v:=?_) rfl (by kernel_rfl) (by kernel_rfl) (by kernel_rfl) (fun _ _ _ h=>h) (Or.inl ⟨by rfl,?_⟩) hH ?_
    rotate_left
    ·((intro w hSw;(try dsimp only at hSw);go_simp);try with_reducible rfl)
    simp only [Act.put,List.setIfInBounds_toArray,List.set_cons_zero,List.set_cons_succ]
    refine take_list (i:=3) (v:=?_) rfl (by kernel_rfl) (by kernel_rfl) (by kernel_rfl) (fun _ _ _ h=>h) (Or.inl ⟨by rfl,?_⟩) hH ?_
    rotate_left
    ·((intro w hSw;(try dsimp only at hSw);go_simp);try with_reducible rfl)
    simp only [Act.put,List.setIfInBounds_toArray,List.set_cons_zero,List.set_cons_succ]
    refine take_list (i:=4) (v:=?_) rfl (by kernel_rfl) (by kernel_rfl) (by kernel_rfl) (fun _ _ _ h=>h) (Or.inl ⟨by rfl,?_⟩) hH ?_
    rotate_left
    ·((intro w hSw;(try dsimp only at hSw);go_simp);try with_reducible rfl)
    simp only [Act.put,List.setIfInBounds_toArray,List.set_cons_zero,List.set_cons_succ]
    refine take_list (i:=5) (v:=?_) rfl (by kernel_rfl) (by kernel_rfl) (by kernel_rfl) (fun _ _ _ h=>h) (Or.inl ⟨by rfl,?_⟩) hH ?_
    rotate_left
    ·((intro w hSw;(try dsimp only at hSw);go_simp);try with_reducible rfl)
    simp only [Act.put,List.setIfInBounds_toArray,List.set_cons_zero,List.set_cons_succ]
    refine take_list (i:=6) (v:=?_) rfl (by kernel_rfl) (by kernel_rfl) (by kernel_rfl) (fun _ _ _ h=>h) (Or.inl ⟨by rfl,?_⟩) hH ?_
    rotate_left
    ·((intro w hSw;(try dsimp only at hSw);go_simp);try with_reducible rfl)
    simp only [Act.put,List.setIfInBounds_toArray,List.set_cons_zero,List.set_cons_succ]
    refine take_list (i:=8) (v:=?_) rfl (by kernel_rfl) (by kernel_rfl) (by kernel_rfl) (fun _ _ _ h=>h) (Or.inl ⟨by rfl,?_⟩) hH ?_
    rotate_left
    ·((intro w hSw;(try dsimp only at hSw);go_simp);try with_reducible rfl)
    simp only [Act.put,List.setIfInBounds_toArray,List.set_cons_zero,List.set_cons_succ]
    refine take_list (i:=9) (v:=?_) rfl (by kernel_rfl) (by kernel_rfl) (by kernel_rfl) (fun _ _ _ h=>h) (Or.inl ⟨by rfl,?_⟩) hH ?_
    rotate_left
    ·((intro w hSw;(try dsimp only at hSw);go_simp);try with_reducible rfl)
    simp only [Act.put,List.setIfInBounds_toArray,List.set_cons_zero,List.set_cons_succ]
    refine take_list (i:=10) (v:=?_) rfl (by kernel_rfl) (by kernel_rfl) (by kernel_rfl) (fun _ _ _ h=>h) (Or.inl ⟨by rfl,?_⟩) hH ?_
    rotate_left
    ·((intro w hSw;(try dsimp only at hSw);go_simp);try with_reducible rfl)
    simp only [Act.put,List.setIfInBounds_toArray,List.set_cons_zero,List.set_cons_succ]
    refine take_list (i:=11) (v:=?_) rfl (by kernel_rfl) (by kernel_rfl) (by kernel_rfl) (fun _ _ _ h=>h) (Or.inl ⟨by rfl,?_⟩) hH ?_
    rotate_left
    ·((intro w hSw;(try dsimp only at hSw);go_simp);try with_reducible rfl)
    simp only [Act.put,List.setIfInBounds_toArray,List.set_cons_zero,List.set_cons_succ]
    refine take_list (i:=12) (v:=?_) rfl (by kernel_rfl) (by kernel_rfl) (by kernel_rfl) (fun _ _ _ h=>h) (Or.inl ⟨by rfl,?_⟩) hH ?_
    rotate_left
    ·((intro w hSw;(try dsimp only at hSw);go_simp);try with_reducible rfl)
    simp only [Act.put,List.setIfInBounds_toArray,List.set_cons_zero,List.set_cons_succ]
    refine take_list (i:=13) (v:=?_) rfl (by kernel_rfl) (by kernel_rfl) (by kernel_rfl) (fun _ _ _ h=>h) (Or.inl ⟨by rfl,?_⟩) hH ?_
    rotate_left
    ·((intro w hSw;(try dsimp only at hSw);go_simp);try with_reducible rfl)
    simp only [Act.put,List.setIfInBounds_toArray,List.set_cons_zero,List.set_cons_succ]
    refine wpAnyH_ready (rs:=[1]) (by kernel_rfl) (by simp) ?_
    refine ready_list rfl (fun K hK=>?_)
    go_simp
    refine (cmode_any (HK7.out.quiet HOD.out)).mono ?_
    rintro en w8 ⟨rfl,ho8⟩
    have HO8:=Lib.hid (HOD.out.trans ho8 (by simp))
    refine hK.out _ _ (HST.out _ (HK7.out.quiet HO8.out)) (fun hH=>?_)
    clear hK K ho8
    refine take_list (i:=7) (v:=?_) rfl (by kernel_rfl) (by kernel_rfl) (by kernel_rfl) (fun _ _ _ h=>h) (Or.inl ⟨by rfl,?_⟩) hH ?_
    rotate_left
    ·((intro w hSw;(try dsimp only at hSw);go_simp);try with_reducible rfl)
    simp only [Act.put,List.setIfInBounds_toArray,List.set_cons_zero,List.set_cons_succ]
    refine take_list (i:=14) (v:=?_) rfl (by kernel_rfl) (by kernel_rfl) (by kernel_rfl) (fun _ _ _ h=>h) (Or.inl ⟨by rfl,?_⟩) hH ?_
    rotate_left
    ·((intro w hSw;(try dsimp only at hSw);go_simp);try with_reducible rfl)
    simp only [Act.put,List.setIfInBounds_toArray,List.set_cons_zero,List.set_cons_succ]
    refine take_list (i:=15) (v:=undef) rfl (by kernel_rfl) (by kernel_rfl) (by kernel_rfl) (fun _ _ _ h=>h) (Or.inr ⟨by rfl,rfl⟩) hH ?_
    simp only [Act.put,List.setIfInBounds_toArray,List.set_cons_zero,List.set_cons_succ]
    refine take_list (i:=16) (v:=undef) rfl (by kernel_rfl) (by kernel_rfl) (by kernel_rfl) (fun _ _ _ h=>h) (Or.inr ⟨by rfl,rfl⟩) hH ?_
    simp only [Act.put,List.setIfInBounds_toArray,List.set_cons_zero,List.set_cons_succ]
    refine take_list (i:=17) (v:=?_) rfl (by kernel_rfl) (by kernel_rfl) (by kernel_rfl) (fun _ _ _ h=>h) (Or.inl ⟨by rfl,?_⟩) hH ?_
    rotate_left
    ·((intro w hSw;(try dsimp only at hSw);go_simp);try with_reducible rfl)
    simp only [Act.put,List.setIfInBounds_toArray,List.set_cons_zero,List.set_cons_succ]
    refine take_list (i:=18) (v:=?_) rfl (by kernel_rfl) (by kernel_rfl) (by kernel_rfl) (fun _ _ _ h=>h) (Or.inl ⟨by rfl,?_⟩) hH ?_
    rotate_left
    ·((intro w hSw;(try dsimp only at hSw);go_simp);try with_reducible rfl)
    simp only [Act.put,List.setIfInBounds_toArray,List.set_cons_zero,List.set_cons_succ]
    have HZ8:=Lib.hid (HO8.out.heap HZ.out (by simp))
    have s0:w8.cell? ⟨w.heap.size+1,0,none⟩=some (.int .i64 0):=cell_at 0 HZ8.out
    have s1:w8.cell? ⟨w.heap.size+1,1,none⟩=some (.int .i64 0):=cell_at 1 HZ8.out
    have s2:w8.cell? ⟨w.heap.size+1,2,none⟩=some (.int .i64 0):=cell_at 2 HZ8.out
    have s3:w8.cell? ⟨w.heap.size+1,3,none⟩=some (.bool false):=cell_at 3 HZ8.out
    have gs0:=free_at 0 HZ8.out
    have gs1:=free_at 1 HZ8.out
    have gs2:=free_at 2 HZ8.out
    have gs3:=free_at 3 HZ8.out
    clear hH
    refine wpAnyH_ready (rs:=[19]) (by kernel_rfl) (by simp) ?_
    refine ready_list rfl (fun K hK=>?_)
    go_simp
    have oz:Only [w.heap.size+1] w8 ((((w8.setCell ⟨w.heap.size+1,0,none⟩ (.int .i64 (modeC s7))).setCell ⟨w.heap.size+1,1,none⟩ (.int .i64 (T:Int))).setCell ⟨w.heap.size+1,2,none⟩ (.int .i64 (N7:Int))).setCell ⟨w.heap.size+1,3,none⟩ (.bool false)):=
     ((((Only.refl _ _).setCell (.inl (by simp)) _).setCell (.inl (by simp)) _).setCell (.inl (by simp)) _).setCell (.inl (by simp)) _
    have hz:=four_set HZ8.out (.int .i64 (modeC s7)) (.int .i64 (T:Int)) (.int .i64 (N7:Int)) (.bool false)
    generalize (((w8.setCell ⟨w.heap.size+1,0,none⟩ (.int .i64 (modeC s7))).setCell ⟨w.heap.size+1,1,none⟩ (.int .i64 (T:Int))).setCell ⟨w.heap.size+1,2,none⟩ (.int .i64 (N7:Int))).setCell ⟨w.heap.size+1,3,none⟩ (.bool false)=wz at oz hz⊢
    have hkz:CK wz g b1 b2 s7:=by
     refine (HK7.out.quiet HO8.out).past oz (fun k hk=>by rw [List.mem_singleton.1 hk];exact hgz) (fun k hk o ho cs fr e=>?_)
     rw [List.mem_singleton.1 hk,HZ8.out] at ho
     rw [← Option.some.inj ho] at e
     injection e with _ e2 _
     exact absurd e2 (by decide)
    refine hK.out _ _ (HST.out _ hkz) (fun hH=>?_)
    have HKZ:=Lib.hid hkz
    have HZZ:=Lib.hid hz
    have HOZ:=Lib.hid oz
    clear hK K hz hkz oz s0 s1 s2 s3 gs0 gs1 gs2 gs3
    refine wpAnyH_done (by kernel_rfl) ?_ _
    clear hH
    go_wp2_with fail
    (try simp only [Exit.inBlock,Exit.then])
    refine bodyPost_ret (res_operation _ _ (w.heap.size+1) _ _ _ _ rfl HZZ.out) rfl ?_
    refine ⟨modeC s7,T,N7,false,rfl,by rw [← HS7.out];exact HKZ.out,fun _=>⟨by rw [HS7.out];rfl,by rw [HT.out];rfl,by rw [HN7.out,HS7.out];rfl,?_⟩,(HO.out.trans HO8.out (by simp)).trans (T:=[w.heap.size+1]) HOZ.out (fun k hk=>.inr (by rw [List.mem_singleton.1 hk];omega))⟩
    unfold opI
    dsimp only
    rw [← HS7.out,← HX2.out,HX0.out]
    simp
  ·have h20':¬ (2048:Int) < (T:Int):=by omega
   have hS:opS s d=opG s d:=by unfold opS;rw [HFL.out,← HT.out];simp [h20]
   have HS:=Lib.hid hS
   have HK7:=Lib.hid (show CK w6 g b1 b2 (opS s d) by rw [hS];exact HK6.out)
   clear hS h20
   obtain ⟨w7,hw7⟩:∃ w7,w7=w6:=⟨_,rfl⟩
   rw [← hw7] at HY HZ HO HK7
   go_wp2_with fail
   rw [← hw7]
   clear hw7
   generalize hwi:wrap64 (C4 - C3)=wi
   have HWI:=Lib.hid hwi
   clear hwi
   obtain ⟨s7,hs7⟩:∃ s7,s7=opS s d:=⟨_,rfl⟩
   rw [← hs7] at HK7
   have HS7:=Lib.hid hs7
   clear hs7
   obtain ⟨N7,hN7⟩:∃ N7,N7=s7.decl.length:=⟨_,rfl⟩
   have HN7:=Lib.hid hN7
   obtain ⟨x2,hx2⟩:∃ x2,x2=s7.ki 2:=⟨_,rfl⟩
   have HX2:=Lib.hid hx2
   have hst:∀ W,CK W g b1 b2 s7→(W.cell? ⟨g,1,none⟩=some (.map (some b2))∧W.cell? ⟨g,4,none⟩=some (.int .i64 x2)∧∀ ty,(Builtin.len_ #[66] ty #[.map (some b2)]).run Try.prog W=.ok (.int .i64 (N7:Int)) W):=fun W hk=>by
    obtain ⟨fv,h1,h2⟩:=hk.row
    refine ⟨cell_at 1 h1,by rw [hx2];exact cell_at 4 h1,fun ty=>by rw [hN7];exact hk.decl.len Try.underlying66 ty⟩
   have HST:=Lib.hid hst
   clear hst hN7 hx2
   have oD:Only [] w7 w7.drew:=(Only.refl [] w7).drew
   by_cases hx0:x2=0
   ·have hx0':(x2 == 0)=true:=by simp [hx0]
    have HX0:=Lib.hid hx0
    clear hx0
    obtain ⟨tb,htb⟩:∃ tb,(wi == 0)=tb:=⟨_,rfl⟩
    have HTB:=Lib.hid htb
    refine wp_region_held_drew (S:=fun W=>W.cell? ⟨g,1,none⟩=some (.map (some b2))∧W.cell? ⟨g,4,none⟩=some (.int .i64 x2)∧∀ ty,(Builtin.len_ #[66] ty #[.map (some b2)]).run Try.prog W=.ok (.int .i64 (N7:Int)) W) (by kernel_rfl) (HST.out _ (HK7.out.quiet oD)) (fun hH=>?_)
    have HOD:=Lib.hid oD
    clear oD
    generalize w7.drew=wd at HOD hH⊢
    refine take_list (i:=0) (v:=?_) rfl (by kernel_rfl) (by kernel_rfl) (by kernel_rfl) (fun _ _ _ h=>h) (Or.inl ⟨by rfl,?_⟩) hH ?_
    rotate_left
    ·((intro w hSw;(try dsimp only at hSw);go_simp);try with_reducible rfl)
    simp only [Act.put,List.setIfInBounds_toArray,List.set_cons_zero,List.set_cons_succ]
    refine take_list (i:=2) (v:=?_) rfl (by kernel_rfl) (by kernel_rfl) (by kernel_rfl) (fun _ _ _ h=>h) (Or.inl ⟨by rfl,?_⟩) hH ?_
    rotate_left
    ·((intro w hSw;(try dsimp only at hSw);go_simp);try with_reducible rfl)
    simp only [Act.put,List.setIfInBounds_toArray,List.set_cons_zero,List.set_cons_succ]
    refine take_list (i:=3) (v:=?_) rfl (by kernel_rfl) (by kernel_rfl) (by kernel_rfl) (fun _ _ _ h=>h) (Or.inl ⟨by rfl,?_⟩) hH ?_
    rotate_left
    ·((intro w hSw;(try dsimp only at hSw);go_simp);try with_reducible rfl)
    simp only [Act.put,List.setIfInBounds_toArray,List.set_cons_zero,List.set_cons_succ]
    refine take_list (i:=4) (v:=?_) rfl (by kernel_rfl) (by kernel_rfl) (by kernel_rfl) (fun _ _ _ h=>h) (Or.inl ⟨by rfl,?_⟩) hH ?_
    rotate_left
    ·((intro w hSw;(try dsimp only at hSw);go_simp);try with_reducible rfl)
    simp only [Act.put,List.setIfInBounds_toArray,List.set_cons_zero,List.set_cons_succ]
    refine take_list (i:=5) (v:=?_) rfl (by kernel_rfl) (by kernel_rfl) (by kernel_rfl) (fun _ _ _ h=>h) (Or.inl ⟨by rfl,?_⟩) hH ?_
    rotate_left
    ·((intro w hSw;(try dsimp only at hSw);go_simp);try with_reducible rfl)
    simp only [Act.put,List.setIfInBounds_toArray,List.set_cons_zero,List.set_cons_succ]
    refine take_list (i:=6) (v:=?_) rfl (by kernel_rfl) (by kernel_rfl) (by kernel_rfl) (fun _ _ _ h=>h) (Or.inl ⟨by rfl,?_⟩) hH ?_
    rotate_left
    ·((intro w hSw;(try dsimp only at hSw);go_simp);try with_reducible rfl)
    simp only [Act.put,List.setIfInBounds_toArray,List.set_cons_zero,List.set_cons_succ]
    refine take_list (i:=8) (v:=?_) rfl (by kernel_rfl) (by kernel_rfl) (by kernel_rfl) (fun _ _ _ h=>h) (Or.inl ⟨by rfl,?_⟩) hH ?_
    rotate_left
    ·((intro w hSw;(try dsimp only at hSw);go_simp);try with_reducible rfl)
    simp only [Act.put,List.setIfInBounds_toArray,List.set_cons_zero,List.set_cons_succ]
    refine take_list (i:=9) (v:=?_) rfl (by kernel_rfl) (by kernel_rfl) (by kernel_rfl) (fun _ _ _ h=>h) (Or.inl ⟨by rfl,?_⟩) hH ?_
    rotate_left
    ·((intro w hSw;(try dsimp only at hSw);go_simp);try with_reducible rfl)
    simp only [Act.put,List.setIfInBounds_toArray,List.set_cons_zero,List.set_cons_succ]
    refine take_list (i:=10) (v:=?_) rfl (by kernel_rfl) (by kernel_rfl) (by kernel_rfl) (fun _ _ _ h=>h) (Or.inl ⟨by rfl,?_⟩) hH ?_
    rotate_left
    ·((intro w hSw;(try dsimp only at hSw);go_simp);try with_reducible rfl)
    simp only [Act.put,List.setIfInBounds_toArray,List.set_cons_zero,List.set_cons_succ]
    refine take_list (i:=11) (v:=?_) rfl (by kernel_rfl) (by kernel_rfl) (by kernel_rfl) (fun _ _ _ h=>h) (Or.inl ⟨by rfl,?_⟩) hH ?_
    rotate_left
    ·((intro w hSw;(try dsimp only at hSw);go_simp);try with_reducible rfl)
    simp only [Act.put,List.setIfInBounds_toArray,List.set_cons_zero,List.set_cons_succ]
    refine take_list (i:=12) (v:=?_) rfl (by kernel_rfl) (by kernel_rfl) (by kernel_rfl) (fun _ _ _ h=>h) (Or.inl ⟨by rfl,?_⟩) hH ?_
    rotate_left
    ·((intro w hSw;(try dsimp only at hSw);go_simp);try with_reducible rfl)
    simp only [Act.put,List.setIfInBounds_toArray,List.set_cons_zero,List.set_cons_succ]
    refine take_list (i:=13) (v:=?_) rfl (by kernel_rfl) (by kernel_rfl) (by kernel_rfl) (fun _ _ _ h=>h) (Or.inl ⟨by rfl,?_⟩) hH ?_
    rotate_left
    ·((intro w hSw;(try dsimp only at hSw);go_simp);try with_reducible rfl)
    simp only [Act.put,List.setIfInBounds_toArray,List.set_cons_zero,List.set_cons_succ]
    refine wpAnyH_ready (rs:=[1]) (by kernel_rfl) (by simp) ?_
    refine ready_list rfl (fun K hK=>?_)
    go_simp
    refine (cmode_any (HK7.out.quiet HOD.out)).mono ?_
    rintro en w8 ⟨rfl,ho8⟩
    have HO8:=Lib.hid (HOD.out.trans ho8 (by simp))
    refine hK.out _ _ (HST.out _ (HK7.out.quiet HO8.out)) (fun hH=>?_)
    clear hK K ho8
    refine take_list (i:=7) (v:=?_) rfl (by kernel_rfl) (by kernel_rfl) (by kernel_rfl) (fun _ _ _ h=>h) (Or.inl ⟨by rfl,?_⟩) hH ?_
    rotate_left
    ·((intro w hSw;(try dsimp only at hSw);go_simp);try with_reducible rfl)
    simp only [Act.put,List.setIfInBounds_toArray,List.set_cons_zero,List.set_cons_succ]
    refine take_list (i:=14) (v:=?_) rfl (by kernel_rfl) (by kernel_rfl) (by kernel_rfl) (fun _ _ _ h=>h) (Or.inl ⟨by rfl,?_⟩) hH ?_
    rotate_left
    ·((intro w hSw;(try dsimp only at hSw);go_simp);try with_reducible rfl)
    simp only [Act.put,List.setIfInBounds_toArray,List.set_cons_zero,List.set_cons_succ]
    refine take_list (i:=15) (v:=?_) rfl (by kernel_rfl) (by kernel_rfl) (by kernel_rfl) (fun _ _ _ h=>h) (Or.inl ⟨by rfl,?_⟩) hH ?_
    rotate_left
    ·((intro w hSw;(try dsimp only at hSw);go_simp);try with_reducible rfl)
    simp only [Act.put,List.setIfInBounds_toArray,List.set_cons_zero,List.set_cons_succ]
    refine take_list (i:=16) (v:=?_) rfl (by kernel_rfl) (by kernel_rfl) (by kernel_rfl) (fun _ _ _ h=>h) (Or.inl ⟨by rfl,?_⟩) hH ?_
    rotate_left
    ·((intro w hSw;(try dsimp only at hSw);go_simp);try with_reducible rfl)
    simp only [Act.put,List.setIfInBounds_toArray,List.set_cons_zero,List.set_cons_succ]
    refine take_list (i:=17) (v:=?_) rfl (by kernel_rfl) (by kernel_rfl) (by kernel_rfl) (fun _ _ _ h=>h) (Or.inl ⟨by rfl,?_⟩) hH ?_
    rotate_left
    ·((intro w hSw;(try dsimp only at hSw);go_simp);try with_reducible rfl)
    simp only [Act.put,List.setIfInBounds_toArray,List.set_cons_zero,List.set_cons_succ]
    refine take_list (i:=18) (v:=?_) rfl (by kernel_rfl) (by kernel_rfl) (by kernel_rfl) (fun _ _ _ h=>h) (Or.inl ⟨by rfl,?_⟩) hH ?_
    rotate_left
    ·((intro w hSw;(try dsimp only at hSw);go_simp);try with_reducible rfl)
    simp only [Act.put,List.setIfInBounds_toArray,List.set_cons_zero,List.set_cons_succ]
    have HZ8:=Lib.hid (HO8.out.heap HZ.out (by simp))
    have s0:w8.cell? ⟨w.heap.size+1,0,none⟩=some (.int .i64 0):=cell_at 0 HZ8.out
    have s1:w8.cell? ⟨w.heap.size+1,1,none⟩=some (.int .i64 0):=cell_at 1 HZ8.out
    have s2:w8.cell? ⟨w.heap.size+1,2,none⟩=some (.int .i64 0):=cell_at 2 HZ8.out
    have s3:w8.cell? ⟨w.heap.size+1,3,none⟩=some (.bool false):=cell_at 3 HZ8.out
    have gs0:=free_at 0 HZ8.out
    have gs1:=free_at 1 HZ8.out
    have gs2:=free_at 2 HZ8.out
    have gs3:=free_at 3 HZ8.out
    clear hH
    refine wpAnyH_ready (rs:=[19]) (by kernel_rfl) (by simp) ?_
    refine ready_list rfl (fun K hK=>?_)
    go_simp
    have oz:Only [w.heap.size+1] w8 ((((w8.setCell ⟨w.heap.size+1,0,none⟩ (.int .i64 (modeC s7))).setCell ⟨w.heap.size+1,1,none⟩ (.int .i64 (T:Int))).setCell ⟨w.heap.size+1,2,none⟩ (.int .i64 (N7:Int))).setCell ⟨w.heap.size+1,3,none⟩ (.bool tb)):=
     ((((Only.refl _ _).setCell (.inl (by simp)) _).setCell (.inl (by simp)) _).setCell (.inl (by simp)) _).setCell (.inl (by simp)) _
    have hz:=four_set HZ8.out (.int .i64 (modeC s7)) (.int .i64 (T:Int)) (.int .i64 (N7:Int)) (.bool tb)
    generalize (((w8.setCell ⟨w.heap.size+1,0,none⟩ (.int .i64 (modeC s7))).setCell ⟨w.heap.size+1,1,none⟩ (.int .i64 (T:Int))).setCell ⟨w.heap.size+1,2,none⟩ (.int .i64 (N7:Int))).setCell ⟨w.heap.size+1,3,none⟩ (.bool tb)=wz at oz hz⊢
    have hkz:CK wz g b1 b2 s7:=by
     refine (HK7.out.quiet HO8.out).past oz (fun k hk=>by rw [List.mem_singleton.1 hk];exact hgz) (fun k hk o ho cs fr e=>?_)
     rw [List.mem_singleton.1 hk,HZ8.out] at ho
     rw [← Option.some.inj ho] at e
     injection e with _ e2 _
     exact absurd e2 (by decide)
    refine hK.out _ _ (HST.out _ hkz) (fun hH=>?_)
    have HKZ:=Lib.hid hkz
    have HZZ:=Lib.hid hz
    have HOZ:=Lib.hid oz
    clear hK K hz hkz oz s0 s1 s2 s3 gs0 gs1 gs2 gs3
    refine wpAnyH_done (by kernel_rfl) ?_ _
    clear hH
    go_wp2_with fail
    (try simp only [Exit.inBlock,Exit.then])
    refine bodyPost_ret (res_operation _ _ (w.heap.size+1) _ _ _ _ rfl HZZ.out) rfl ?_
    refine ⟨modeC s7,T,N7,tb,rfl,by rw [← HS7.out];exact HKZ.out,fun _=>⟨by rw [HS7.out];rfl,by rw [HT.out];rfl,by rw [HN7.out,HS7.out];rfl,?_⟩,(HO.out.trans HO8.out (by simp)).trans (T:=[w.heap.size+1]) HOZ.out (fun k hk=>.inr (by rw [List.mem_singleton.1 hk];omega))⟩
    unfold opI
    dsimp only
    rw [← HS7.out,← HX2.out,HX0.out,← HC4.out,← HC3.out,HWI.out,HTB.out]
    simp
   ·have hx0':(x2 == 0)=false:=by simpa using hx0
    have HX0:=Lib.hid hx0'
    clear hx0
    refine wp_region_held_drew (S:=fun W=>W.cell? ⟨g,1,none⟩=some (.map (some b2))∧W.cell? ⟨g,4,none⟩=some (.int .i64 x2)∧∀ ty,(Builtin.len_ #[66] ty #[.map (some b2)]).run Try.prog W=.ok (.int .i64 (N7:Int)) W) (by kernel_rfl) (HST.out _ (HK7.out.quiet oD)) (fun hH=>?_)
    have HOD:=Lib.hid oD
    clear oD
    generalize w7.drew=wd at HOD hH⊢
    refine take_list (i:=0) (v:=?_) rfl (by kernel_rfl) (by kernel_rfl) (by kernel_rfl) (fun _ _ _ h=>h) (Or.inl ⟨by rfl,?_⟩) hH ?_
    rotate_left
    ·((intro w hSw;(try dsimp only at hSw);go_simp);try with_reducible rfl)
    simp only [Act.put,List.setIfInBounds_toArray,List.set_cons_zero,List.set_cons_succ]
    refine take_list (i:=2) (v:=?_) rfl (by kernel_rfl) (by kernel_rfl) (by kernel_rfl) (fun _ _ _ h=>h) (Or.inl ⟨by rfl,?_⟩) hH ?_
    rotate_left
    ·((intro w hSw;(try dsimp only at hSw);go_simp);try with_reducible rfl)
    simp only [Act.put,List.setIfInBounds_toArray,List.set_cons_zero,List.set_cons_succ]
    refine take_list (i:=3) (v:=?_) rfl (by kernel_rfl) (by kernel_rfl) (by kernel_rfl) (fun _ _ _ h=>h) (Or.inl ⟨by rfl,?_⟩) hH ?_
    rotate_left
    ·((intro w hSw;(try dsimp only at hSw);go_simp);try with_reducible rfl)
    simp only [Act.put,List.setIfInBounds_toArray,List.set_cons_zero,List.set_cons_succ]
    refine take_list (i:=4) (v:=?_) rfl (by kernel_rfl) (by kernel_rfl) (by kernel_rfl) (fun _ _ _ h=>h) (Or.inl ⟨by rfl,?_⟩) hH ?_
    rotate_left
    ·((intro w hSw;(try dsimp only at hSw);go_simp);try with_reducible rfl)
    simp only [Act.put,List.setIfInBounds_toArray,List.set_cons_zero,List.set_cons_succ]
    refine take_list (i:=5) (v:=?_) rfl (by kernel_rfl) (by kernel_rfl) (by kernel_rfl) (fun _ _ _ h=>h) (Or.inl ⟨by rfl,?_⟩) hH ?_
    rotate_left
    ·((intro w hSw;(try dsimp only at hSw);go_simp);try with_reducible rfl)
    simp only [Act.put,List.setIfInBounds_toArray,List.set_cons_zero,List.set_cons_succ]
    refine take_list (i:=6) (v:=?_) rfl (by kernel_rfl) (by kernel_rfl) (by kernel_rfl) (fun _ _ _ h=>h) (Or.inl ⟨by rfl,?_⟩) hH ?_
    rotate_left
    ·((intro w hSw;(try dsimp only at hSw);go_simp);try with_reducible rfl)
    simp only [Act.put,List.setIfInBounds_toArray,List.set_cons_zero,List.set_cons_succ]
    refine take_list (i:=8) (v:=?_) rfl (by kernel_rfl) (by kernel_rfl) (by kernel_rfl) (fun _ _ _ h=>h) (Or.inl ⟨by rfl,?_⟩) hH ?_
    rotate_left
    ·((intro w hSw;(try dsimp only at hSw);go_simp);try with_reducible rfl)
    simp only [Act.put,List.setIfInBounds_toArray,List.set_cons_zero,List.set_cons_succ]
    refine take_list (i:=9) (v:=?_) rfl (by kernel_rfl) (by kernel_rfl) (by kernel_rfl) (fun _ _ _ h=>h) (Or.inl ⟨by rfl,?_⟩) hH ?_
    rotate_left
    ·((intro w hSw;(try dsimp only at hSw);go_simp);try with_reducible rfl)
    simp only [Act.put,List.setIfInBounds_toArray,List.set_cons_zero,List.set_cons_succ]
    refine take_list (i:=10) (v:=?_) rfl (by kernel_rfl) (by kernel_rfl) (by kernel_rfl) (fun _ _ _ h=>h) (Or.inl ⟨by rfl,?_⟩) hH ?_
    rotate_left
    ·((intro w hSw;(try dsimp only at hSw);go_simp);try with_reducible rfl)
    simp only [Act.put,List.setIfInBounds_toArray,List.set_cons_zero,List.set_cons_succ]
    refine take_list (i:=11) (v:=?_) rfl (by kernel_rfl) (by kernel_rfl) (by kernel_rfl) (fun _ _ _ h=>h) (Or.inl ⟨by rfl,?_⟩) hH ?_
    rotate_left
    ·((intro w hSw;(try dsimp only at hSw);go_simp);try with_reducible rfl)
    simp only [Act.put,List.setIfInBounds_toArray,List.set_cons_zero,List.set_cons_succ]
    refine take_list (i:=12) (v:=?_) rfl (by kernel_rfl) (by kernel_rfl) (by kernel_rfl) (fun _ _ _ h=>h) (Or.inl ⟨by rfl,?_⟩) hH ?_
    rotate_left
    ·((intro w hSw;(try dsimp only at hSw);go_simp);try with_reducible rfl)
    simp only [Act.put,List.setIfInBounds_toArray,List.set_cons_zero,List.set_cons_succ]
    refine take_list (i:=13) (v:=?_) rfl (by kernel_rfl) (by kernel_rfl) (by kernel_rfl) (fun _ _ _ h=>h) (Or.inl ⟨by rfl,?_⟩) hH ?_
    rotate_left
    ·((intro w hSw;(try dsimp only at hSw);go_simp);try with_reducible rfl)
    simp only [Act.put,List.setIfInBounds_toArray,List.set_cons_zero,List.set_cons_succ]
    refine wpAnyH_ready (rs:=[1]) (by kernel_rfl) (by simp) ?_
    refine ready_list rfl (fun K hK=>?_)
    go_simp
    refine (cmode_any (HK7.out.quiet HOD.out)).mono ?_
    rintro en w8 ⟨rfl,ho8⟩
    have HO8:=Lib.hid (HOD.out.trans ho8 (by simp))
    refine hK.out _ _ (HST.out _ (HK7.out.quiet HO8.out)) (fun hH=>?_)
    clear hK K ho8
    refine take_list (i:=7) (v:=?_) rfl (by kernel_rfl) (by kernel_rfl) (by kernel_rfl) (fun _ _ _ h=>h) (Or.inl ⟨by rfl,?_⟩) hH ?_
    rotate_left
    ·((intro w hSw;(try dsimp only at hSw);go_simp);try with_reducible rfl)
    simp only [Act.put,List.setIfInBounds_toArray,List.set_cons_zero,List.set_cons_succ]
    refine take_list (i:=14) (v:=?_) rfl (by kernel_rfl) (by kernel_rfl) (by kernel_rfl) (fun _ _ _ h=>h) (Or.inl ⟨by rfl,?_⟩) hH ?_
    rotate_left
    ·((intro w hSw;(try dsimp only at hSw);go_simp);try with_reducible rfl)
    simp only [Act.put,List.setIfInBounds_toArray,List.set_cons_zero,List.set_cons_succ]
    refine take_list (i:=15) (v:=undef) rfl (by kernel_rfl) (by kernel_rfl) (by kernel_rfl) (fun _ _ _ h=>h) (Or.inr ⟨by rfl,rfl⟩) hH ?_
    simp only [Act.put,List.setIfInBounds_toArray,List.set_cons_zero,List.set_cons_succ]
    refine take_list (i:=16) (v:=undef) rfl (by kernel_rfl) (by kernel_rfl) (by kernel_rfl) (fun _ _ _ h=>h) (Or.inr ⟨by rfl,rfl⟩) hH ?_
    simp only [Act.put,List.setIfInBounds_toArray,List.set_cons_zero,List.set_cons_succ]
    refine take_list (i:=17) (v:=?_) rfl (by kernel_rfl) (by kernel_rfl) (by kernel_rfl) (fun _ _ _ h=>h) (Or.inl ⟨by rfl,?_⟩) hH ?_
    rotate_left
    ·((intro w hSw;(try dsimp only at hSw);go_simp);try with_reducible rfl)
    simp only [Act.put,List.setIfInBounds_toArray,List.set_cons_zero,List.set_cons_succ]
    refine take_list (i:=18) (v:=?_) rfl (by kernel_rfl) (by kernel_rfl) (by kernel_rfl) (fun _ _ _ h=>h) (Or.inl ⟨by rfl,?_⟩) hH ?_
    rotate_left
    ·((intro w hSw;(try dsimp only at hSw);go_simp);try with_reducible rfl)
    simp only [Act.put,List.setIfInBounds_toArray,List.set_cons_zero,List.set_cons_succ]
    have HZ8:=Lib.hid (HO8.out.heap HZ.out (by simp))
    have s0:w8.cell? ⟨w.heap.size+1,0,none⟩=some (.int .i64 0):=cell_at 0 HZ8.out
    have s1:w8.cell? ⟨w.heap.size+1,1,none⟩=some (.int .i64 0):=cell_at 1 HZ8.out
    have s2:w8.cell? ⟨w.heap.size+1,2,none⟩=some (.int .i64 0):=cell_at 2 HZ8.out
    have s3:w8.cell? ⟨w.heap.size+1,3,none⟩=some (.bool false):=cell_at 3 HZ8.out
    have gs0:=free_at 0 HZ8.out
    have gs1:=free_at 1 HZ8.out
    have gs2:=free_at 2 HZ8.out
    have gs3:=free_at 3 HZ8.out
    clear hH
    refine wpAnyH_ready (rs:=[19]) (by kernel_rfl) (by simp) ?_
    refine ready_list rfl (fun K hK=>?_)
    go_simp
    have oz:Only [w.heap.size+1] w8 ((((w8.setCell ⟨w.heap.size+1,0,none⟩ (.int .i64 (modeC s7))).setCell ⟨w.heap.size+1,1,none⟩ (.int .i64 (T:Int))).setCell ⟨w.heap.size+1,2,none⟩ (.int .i64 (N7:Int))).setCell ⟨w.heap.size+1,3,none⟩ (.bool false)):=
     ((((Only.refl _ _).setCell (.inl (by simp)) _).setCell (.inl (by simp)) _).setCell (.inl (by simp)) _).setCell (.inl (by simp)) _
    have hz:=four_set HZ8.out (.int .i64 (modeC s7)) (.int .i64 (T:Int)) (.int .i64 (N7:Int)) (.bool false)
    generalize (((w8.setCell ⟨w.heap.size+1,0,none⟩ (.int .i64 (modeC s7))).setCell ⟨w.heap.size+1,1,none⟩ (.int .i64 (T:Int))).setCell ⟨w.heap.size+1,2,none⟩ (.int .i64 (N7:Int))).setCell ⟨w.heap.size+1,3,none⟩ (.bool false)=wz at oz hz⊢
    have hkz:CK wz g b1 b2 s7:=by
     refine (HK7.out.quiet HO8.out).past oz (fun k hk=>by rw [List.mem_singleton.1 hk];exact hgz) (fun k hk o ho cs fr e=>?_)
     rw [List.mem_singleton.1 hk,HZ8.out] at ho
     rw [← Option.some.inj ho] at e
     injection e with _ e2 _
     exact absurd e2 (by decide)
    refine hK.out _ _ (HST.out _ hkz) (fun hH=>?_)
    have HKZ:=Lib.hid hkz
    have HZZ:=Lib.hid hz
    have HOZ:=Lib.hid oz
    clear hK K hz hkz oz s0 s1 s2 s3 gs0 gs1 gs2 gs3
    refine wpAnyH_done (by kernel_rfl) ?_ _
    clear hH
    go_wp2_with fail
    (try simp only [Exit.inBlock,Exit.then])
    refine bodyPost_ret (res_operation _ _ (w.heap.size+1) _ _ _ _ rfl HZZ.out) rfl ?_
    refine ⟨modeC s7,T,N7,false,rfl,by rw [← HS7.out];exact HKZ.out,fun _=>⟨by rw [HS7.out];rfl,by rw [HT.out];rfl,by rw [HN7.out,HS7.out];rfl,?_⟩,(HO.out.trans HO8.out (by simp)).trans (T:=[w.heap.size+1]) HOZ.out (fun k hk=>.inr (by rw [List.mem_singleton.1 hk];omega))⟩
    unfold opI
    dsimp only
    rw [← HS7.out,← HX2.out,HX0.out]
    simp
end
end Go.Proofs.Ytiaeagpepfmfgaa
namespace Go.Proofs.Ytiaeagpepfmfgaa
open Go.RowKit Go.Maps
set_option linter.unusedSimpArgs false
set_option linter.unusedVariables false
theorem fail_flt (s:CS) (c p:Int):(s.fail c p).flt≠none:=by
 unfold CS.fail
 cases h:s.flt with
 | none=>simp
 | some x=>simp [h]
theorem declare_mono {s:CS} {nm:Sec} {t p:Int} (h:(s.declare nm t p).flt=none):s.flt=none:=by
 unfold CS.declare at h
 split at h
 ·exact absurd h (fail_flt _ _ _)
 ·split at h
  ·exact absurd h (fail_flt _ _ _)
  ·exact h
theorem look_mono {s:CS} {nm:Sec} {p:Int} (h:(s.look nm p).2.flt=none):s.flt=none:=by
 unfold CS.look at h
 split at h
 ·exact h
 ·split at h
  ·exact h
  ·exact absurd h (fail_flt _ _ _)
mutual
theorem exprC_mono:∀ (e:E) (s:CS),(exprC s e).2.flt=none→s.flt=none
 | .mk k n nm xs p,s,h=>by
  unfold exprC at h
  split at h
  ·exact look_mono h
  ·split at h
   ·have:=typedC_mono xs _ _ h
    exact this
   ·split at h
    ·exact typedC_mono xs _ _ h
    ·split at h
     ·exact typedC_mono xs _ _ h
     ·split at h
      ·split at h
       ·exact alikeC_mono xs _ h
       ·exact typedC_mono xs _ _ h
      ·exact h
theorem typedC_mono:∀ (xs:List E) (s:CS) (want:Int),(typedC s want xs).flt=none→s.flt=none
 | [],s,want,h=>by unfold typedC at h;exact h
 | e :: es,s,want,h=>by
  unfold typedC at h
  have h1:=typedC_mono es _ _ h
  split at h1
  ·exact exprC_mono e s h1
  ·exact absurd h1 (fail_flt _ _ _)
theorem alikeC_mono:∀ (xs:List E) (s:CS),(alikeC s xs).flt=none→s.flt=none
 | [],s,h=>by unfold alikeC at h;exact h
 | e :: es,s,h=>by
  unfold alikeC at h
  exact exprC_mono e s (typedC_mono es _ _ h)
end
mutual
def pS:St→Prop | .mk k _ _ _ bd els _=>(k≠6→els=[])∧(k≤5→bd=[])∧pB bd∧pB els
def pB:List St→Prop | []=>True | x :: xs=>pS x∧pB xs
end
theorem pB_nil:pB []:=by unfold pB;trivial
section
variable {ts:List Tok}
theorem plain_leaf {k:Int} (nm:Sec) (xs:List E) (p:Int):pS (.mk k nm xs 0 [] [] p):=by
 unfold pS
 exact ⟨fun _=>rfl,fun _=>rfl,pB_nil,pB_nil⟩
theorem plain_cell {i dp a:Nat} {s:St} (h:cellR ts i dp=.ok (s,a)):pS s:=by
 unfold cellR at h
 split at h
 ·cases h
 ·split at h
  ·split at h
   ·cases h
   ·split at h<;>cases h
    exact plain_leaf _ _ _
  ·split at h
   ·split at h
    ·cases h
    ·split at h<;>cases h
     exact plain_leaf _ _ _
   ·cases h
theorem plain_let {i dp a:Nat} {s:St} (h:letR ts i dp=.ok (s,a)):pS s:=by
 unfold letR at h
 split at h
 ·cases h
 ·split at h
  ·cases h
  ·split at h
   ·cases h
   ·split at h<;>cases h
    exact plain_leaf _ _ _
theorem plain_stmt:∀ f:Nat,(∀ i dp s a,stmtR ts f i dp=.ok (s,a)→pS s)∧(∀ i dp l a,blockR ts f i dp=.ok (l,a)→pB l)∧(∀ i dp l a,stmtsR ts f i dp=.ok (l,a)→pB l):=by
 intro f
 induction f with
 | zero=>
  refine ⟨fun i _ e a h=>?_,fun i _ e a h=>?_,fun i _ e a h=>?_⟩
  ·unfold stmtR at h;cases h
  ·unfold blockR at h;cases h
  ·unfold stmtsR at h;cases h
 | succ f ih=>
  obtain ⟨ih1,ih2,ih3⟩:=ih
  refine ⟨fun i dp s a h=>?_,fun i dp l a h=>?_,fun i dp l a h=>?_⟩
  ·unfold stmtR at h
   split at h
   ·exact plain_cell h
   ·split at h
    ·exact plain_let h
    ·split at h
     ·split at h
      ·cases h
      ·split at h
       ·cases h
       ·rename_i bd c hb
        split at h
        ·split at h
         ·cases h
         ·rename_i els d hd
          cases h
          unfold pS
          exact ⟨fun e=>absurd rfl e,fun e=>absurd e (by omega),ih2 _ _ _ _ hb,ih2 _ _ _ _ hd⟩
        ·cases h
         unfold pS
         exact ⟨fun _=>rfl,fun e=>absurd e (by omega),ih2 _ _ _ _ hb,pB_nil⟩
     ·split at h
      ·split at h
       ·cases h
       ·split at h
        ·cases h
        ·rename_i bd c hb
         cases h
         unfold pS
         exact ⟨fun _=>rfl,fun e=>absurd e (by omega),ih2 _ _ _ _ hb,pB_nil⟩
      ·cases h
  ·unfold blockR at h
   split at h
   ·cases h
   ·split at h
    ·split at h
     ·cases h
     ·rename_i l' b hs
      split at h<;>cases h
      exact ih3 _ _ _ _ hs
    ·cases h
  ·unfold stmtsR at h
   split at h
   ·cases h
    exact pB_nil
   ·split at h
    ·cases h
    ·rename_i s b hs
     split at h
     ·cases h
     ·rename_i l' c hl
      cases h
      unfold pB
      exact ⟨ih1 _ _ _ _ hs,ih3 _ _ _ _ hl⟩
theorem plain_body:∀ f i l a,bodyR ts f i=.ok (l,a)→pB l:=by
 intro f
 induction f with
 | zero=>intro i l a h;unfold bodyR at h;cases h
 | succ f ih=>
  intro i l a h
  unfold bodyR at h
  split at h
  ·cases h
   exact pB_nil
  ·split at h
   ·cases h
   ·rename_i s b hs
    split at h
    ·cases h
    ·rename_i l' d hl
     cases h
     unfold pB
     exact ⟨(plain_stmt _).1 _ _ _ _ hs,ih _ _ _ hl⟩
end
theorem parse_plain {l:Sec} {d:Df} (h:parseS l=.ok d):pB d.body:=by
 unfold parseS at h
 split at h
 ·cases h
 ·split at h
  ·cases h
  ·split at h
   ·cases h
   ·rename_i d' hp
    cases h
    unfold parseR at hp
    split at hp
    ·cases hp
    ·rename_i d2 a hd
     split at hp
     ·cases hp
      unfold defR at hd
      split at hd
      ·cases hd
      ·split at hd
       ·cases hd
       ·split at hd
        ·cases hd
        ·rename_i b a3 h3
         split at hd
         ·cases hd
         ·split at hd<;>cases hd
          exact plain_body _ _ _ _ h3
     ·cases hp
mutual
theorem stmtC_few:∀ (x:St) (s:CS),wS x→pS x→(stmtC s x).flt=none→s.flt=none∧fewS x
 | .mk k nm xs n bd els p,s,hw,hp,h=>by
  unfold wS at hw
  unfold pS at hp
  obtain ⟨hs,hn,hx,hb,he⟩:=hw
  obtain ⟨p1,p2,p3,p4⟩:=hp
  unfold stmtC at h
  by_cases h6:k=6
  ·rw [if_neg (by omega),if_pos h6] at h
   obtain ⟨h1,h2⟩:=stmtsC_few els _ he p4 h
   obtain ⟨h3,h4⟩:=stmtsC_few bd _ hb p3 h1
   refine ⟨typedC_mono _ _ _ h3,?_⟩
   unfold fewS
   exact ⟨fun e=>by omega,h4,h2⟩
  ·obtain rfl:=p1 h6
   by_cases h7:k=7∨k=8
   ·rw [if_neg (by omega),if_neg h6,if_pos h7] at h
    obtain ⟨h1,h2⟩:=stmtsC_few bd _ hb p3 h
    have hn0:0≤n:=by
     rcases hs with hs | hs | hs<;>omega
    by_cases h64:64 < n
    ·rw [if_pos h64] at h1
     exact absurd h1 (fail_flt _ _ _)
    ·rw [if_neg h64] at h1
     refine ⟨declare_mono h1,?_⟩
     unfold fewS
     exact ⟨fun _=>by omega,h2,by unfold fewB;trivial⟩
   ·have h5:k≤5:=by
     rcases hs with hs | hs | hs<;>omega
    obtain rfl:=p2 h5
    have hf:fewS (.mk k nm xs n [] [] p):=by
     unfold fewS fewB
     exact ⟨fun e=>absurd e h7,trivial,trivial⟩
    refine ⟨?_,hf⟩
    by_cases h1:k=1
    ·rw [if_pos h1] at h
     split at h
     ·exact h
     ·exact exprC_mono _ _ (declare_mono h)
    ·rw [if_neg h1,if_neg h6,if_neg h7] at h
     exact typedC_mono _ _ _ h
theorem stmtsC_few:∀ (xs:List St) (s:CS),wB xs→pB xs→(stmtsC s xs).flt=none→s.flt=none∧fewB xs
 | [],s,_,_,h=>by unfold stmtsC at h;exact ⟨h,by unfold fewB;trivial⟩
 | x :: xs,s,hw,hp,h=>by
  unfold wB at hw
  unfold pB at hp
  unfold stmtsC at h
  obtain ⟨h1,h2⟩:=stmtsC_few xs _ hw.2 hp.2 h
  obtain ⟨h3,h4⟩:=stmtC_few x _ hw.1 hp.1 h1
  exact ⟨h3,by unfold fewB;exact ⟨h4,h2⟩⟩
end
theorem opG_few {s:CS} {d:Df} (hw:Whole d) (hp:pB d.body) (h:(opG s d).flt=none):fewB d.body:=(stmtsC_few d.body _ hw.body hp (typedC_mono _ _ _ h)).2
end Go.Proofs.Ytiaeagpepfmfgaa
namespace Go.Proofs.Ytiaeagpepfmfgaa
open Go.RowKit Go.Maps
set_option linter.unusedSimpArgs false
set_option linter.unusedVariables false
def CS.new:CS:=⟨[],fun _=>none,fun _=>0,0,none⟩
def infoV (i:InfoR):Value:=.agg #[.int .i64 i.mode,.int .i64 (i.steps:Int),.int .i64 (i.names:Int),.bool i.turns]
def infoZ:InfoR:=⟨0,0,0,false⟩
def chkD (d:Df):InfoR×Int×Int:=match (opS CS.new d).flt with | none=>(opI CS.new d,0,0) | some (c,p)=>(infoZ,c,p)
def FaultZ (w:World) (ev:Value) (f:Option (Int×Int)):Prop:=match f with
 | none=>ev=.nilIface
 | some (c,p)=>∃ g,ev=.iface 106 (.pointer (some ⟨g,0,none⟩))∧w.heap[g]?=some (.cells #[.int .i64 c,.int .i64 p] 108 (0,0))
theorem FaultZ.quiet {w w':World} {ev:Value} {f:Option (Int×Int)} (h:FaultZ w ev f) (ho:Only [] w w'):FaultZ w' ev f:=by
 cases f with
 | none=>exact h
 | some x=>
  obtain ⟨c,p⟩:=x
  obtain ⟨g,h1,h2⟩:=h
  exact ⟨g,h1,ho.heap h2 (by simp)⟩
def ChRes (w:World) (d:Df) (en:Ending) (w':World):Prop:=
 ∃ ev,en=.returned (.tuple #[infoV (chkD d).1,ev])∧FaultZ w' ev (opS CS.new d).flt∧Only [] w w'
theorem res_check (tmps:Array Value) (w:World) (g:Nat) (v0 v1 v2 v3 ev:Value) (h2:tmps.getD 2 undef=.pointer (some ⟨g,0,none⟩)) (h3:tmps.getD 3 undef=ev) (h:w.heap[g]?=some (.cells #[v0,v1,v2,v3] 47 (0,0))) :
  (results Try.f20 tmps).run Try.prog w=.ok (.tuple #[.agg #[v0,v1,v2,v3],ev]) w:=by
 have c0:w.cell? ⟨g,0,none⟩=some v0:=cell_at 0 h
 have c1:w.cell? ⟨g,1,none⟩=some v1:=cell_at 1 h
 have c2:w.cell? ⟨g,2,none⟩=some v2:=cell_at 2 h
 have c3:w.cell? ⟨g,3,none⟩=some v3:=cell_at 3 h
 have hl:(loadVar 47 ⟨g,0,none⟩).run Try.prog w=.ok (.agg #[v0,v1,v2,v3]) w:=by
  clear h
  simp [go_sem,c0,c1,c2,c3]
 have h2':tmps[2]?.getD undef=.pointer (some ⟨g,0,none⟩):=by simpa using h2
 have h3':tmps[3]?.getD undef=ev:=by simpa using h3
 simp [results,Try.results20,asAddr,h2',h3',hl]
def newW (w:World):World:=((w.alloc (.map #[] 0)).alloc (.map #[] 0)).alloc (.cells #[.map (some w.heap.size),.map (some (w.heap.size+1)),.int .i64 0,.int .i64 0,.int .i64 0,.int .i64 0,.int .i64 0,.int .i64 0,.int .i64 0,.int .i64 0,.int .i64 0,.int .i64 0,.pointer none] 112)
theorem newW_ck (w:World):CK (newW w) (w.heap.size+1+1) w.heap.size (w.heap.size+1) CS.new∧Only [] w (newW w):=by
 have s1:(w.alloc (.map #[] 0)).heap.size=w.heap.size+1:=Array.size_push _
 have s2:((w.alloc (.map #[] 0)).alloc (.map #[] 0)).heap.size=w.heap.size+1+1:=by rw [← s1];exact Array.size_push _
 have n1:=NMap.made w 135
 have n2:=NMap.made (w.alloc (.map #[] 0)) 3
 rw [s1] at n2
 have o2:Only [] (w.alloc (.map #[] 0)) (newW w):=((Only.refl [] _).alloc _).alloc _
 have o3:Only [] ((w.alloc (.map #[] 0)).alloc (.map #[] 0)) (newW w):=(Only.refl [] _).alloc _
 have h3:=heap_new ((w.alloc (.map #[] 0)).alloc (.map #[] 0)) (.cells #[.map (some w.heap.size),.map (some (w.heap.size+1)),.int .i64 0,.int .i64 0,.int .i64 0,.int .i64 0,.int .i64 0,.int .i64 0,.int .i64 0,.int .i64 0,.int .i64 0,.int .i64 0,.pointer none] 112)
 rw [s2] at h3
 refine ⟨⟨⟨none,h3,rfl⟩,⟨0,n1.kept o2 (by simp)⟩,n2.kept o3 (by simp),by decide,by omega,fun nm h=>absurd h (by simp [CS.new])⟩,((Only.refl [] w).alloc _).trans o2 (by simp)⟩
set_option maxRecDepth 100000 in
set_option maxHeartbeats 8000000 in
theorem check_any {w:World} {B:Nat→Prop} {d:Df} {cs:List Value} (hd:DV w B d cs) (hw:Whole d) (hp:pB d.body):Calls Try.prog 20 #[.agg cs.toArray] w (ChRes w d):=by
 obtain ⟨v1,v2,v3,v4,rfl,hv1,hv2,hv3,hv4⟩:=id hd
 obtain ⟨a1,c1,rfl,-⟩:=hv1
 obtain ⟨a2,c2,rfl,-⟩:=hv2
 obtain ⟨a3,c3,rfl,-⟩:=hv3
 obtain ⟨a4,c4,rfl,-⟩:=hv4
 have HD:=Lib.hid hd.lt
 obtain ⟨sn,hsn⟩:∃ sn,sn=strOf d.name:=⟨_,rfl⟩
 obtain ⟨L1,hL1⟩:∃ L,L=d.params.length:=⟨_,rfl⟩
 obtain ⟨L2,hL2⟩:∃ L,L=d.needs.length:=⟨_,rfl⟩
 obtain ⟨L3,hL3⟩:∃ L,L=d.body.length:=⟨_,rfl⟩
 obtain ⟨L4,hL4⟩:∃ L,L=d.give.length:=⟨_,rfl⟩
 rw [← hsn,← hL1,← hL2,← hL3,← hL4] at HD⊢
 have HW:=Lib.hid hw
 have HP:=Lib.hid hp
 clear hd hw hp hsn hL1 hL2 hL3 hL4
 go_enter Try.func20,Try.ntmps20
 go_upto_region 1 with (fail)
 have o1:Only [] w ((w.alloc (.cells #[.string sn,.slice a1 L1 c1,.slice a2 L2 c2,.slice a3 L3 c3,.slice a4 L4 c4] 30)).alloc (.cells #[.int .i64 0,.int .i64 0,.int .i64 0,.bool false] 47)):=((Only.refl [] w).alloc _).alloc _
 have hY:((w.alloc (.cells #[.string sn,.slice a1 L1 c1,.slice a2 L2 c2,.slice a3 L3 c3,.slice a4 L4 c4] 30)).alloc (.cells #[.int .i64 0,.int .i64 0,.int .i64 0,.bool false] 47)).heap[w.heap.size]?=some (.cells #[.string sn,.slice a1 L1 c1,.slice a2 L2 c2,.slice a3 L3 c3,.slice a4 L4 c4] 30 (0,0)):=heap_old _ (heap_new w _)
 have hZ:((w.alloc (.cells #[.string sn,.slice a1 L1 c1,.slice a2 L2 c2,.slice a3 L3 c3,.slice a4 L4 c4] 30)).alloc (.cells #[.int .i64 0,.int .i64 0,.int .i64 0,.bool false] 47)).heap[w.heap.size+1]?=some (.cells #[.int .i64 0,.int .i64 0,.int .i64 0,.bool false] 47 (0,0)):=by
  have:=heap_new (w.alloc (.cells #[.string sn,.slice a1 L1 c1,.slice a2 L2 c2,.slice a3 L3 c3,.slice a4 L4 c4] 30)) (.cells #[.int .i64 0,.int .i64 0,.int .i64 0,.bool false] 47)
  rw [show (w.alloc (.cells #[.string sn,.slice a1 L1 c1,.slice a2 L2 c2,.slice a3 L3 c3,.slice a4 L4 c4] 30)).heap.size=w.heap.size+1 from Array.size_push _] at this
  exact this
 generalize ((w.alloc (.cells #[.string sn,.slice a1 L1 c1,.slice a2 L2 c2,.slice a3 L3 c3,.slice a4 L4 c4] 30)).alloc (.cells #[.int .i64 0,.int .i64 0,.int .i64 0,.bool false] 47))=w1 at o1 hY hZ⊢
 have HY:=Lib.hid hY
 have HZ:=Lib.hid hZ
 have HO:=Lib.hid o1
 have hD1:=HD.out.kept o1 (by simp) (fun _ h=>h)
 have K1:=cwhole_any hD1 HW.out
 have HD1:=Lib.hid hD1
 have y0:w1.cell? ⟨w.heap.size,0,none⟩=some (.string sn):=cell_at 0 hY
 have y1:w1.cell? ⟨w.heap.size,1,none⟩=some (.slice a1 L1 c1):=cell_at 1 hY
 have y2:w1.cell? ⟨w.heap.size,2,none⟩=some (.slice a2 L2 c2):=cell_at 2 hY
 have y3:w1.cell? ⟨w.heap.size,3,none⟩=some (.slice a3 L3 c3):=cell_at 3 hY
 have y4:w1.cell? ⟨w.heap.size,4,none⟩=some (.slice a4 L4 c4):=cell_at 4 hY
 clear o1 hY hZ hD1
 go_wp2_with fail
 refine K1.mono ?_
 rintro en w2 ⟨rfl,o2⟩
 replace HY:=Lib.hid (o2.heap HY.out (by simp))
 replace HZ:=Lib.hid (o2.heap HZ.out (by simp))
 replace HD1:=Lib.hid (HD1.out.kept o2 (by simp) (fun _ h=>h))
 replace HO:=Lib.hid (HO.out.trans o2 (by simp))
 clear K1 o2 y0 y1 y2 y3 y4
 have hm:=@run_makeMap Try.prog 109
 have hm2:=@run_makeMap Try.prog 66
 go_upto_region 4 with (fail)
 rw [← newW.eq_1]
 obtain ⟨hck,o3⟩:=newW_ck w2
 generalize newW w2=w3 at hck o3⊢
 have hsz:w2.heap.size+1+1 < w3.heap.size:=hck.g_lt
 obtain ⟨g,hg⟩:∃ g,g=w2.heap.size+1+1:=⟨_,rfl⟩
 obtain ⟨b1,hb1⟩:∃ g,g=w2.heap.size:=⟨_,rfl⟩
 obtain ⟨b2,hb2⟩:∃ g,g=w2.heap.size+1:=⟨_,rfl⟩
 rw [← hg,← hb2,← hb1] at hck
 have hw2:w.heap.size+1 < w2.heap.size:=lt_of_heap HZ.out
 have hBn:∀ k∈[g,b1,b2],¬ (B k∧k < w.heap.size):=fun k hk=>by
  simp only [List.mem_cons,List.not_mem_nil,or_false] at hk
  rcases hk with rfl | rfl | rfl<;>(intro e;have:=e.2;omega)
 have hgw:∀ k∈[g,b1,b2],k≠w.heap.size∧k≠w.heap.size+1:=fun k hk=>by
  simp only [List.mem_cons,List.not_mem_nil,or_false] at hk
  rcases hk with rfl | rfl | rfl<;>omega
 have hz0:w.heap.size∉[g,b1,b2]:=fun h=>(hgw _ h).1 rfl
 have hz1:w.heap.size+1∉[g,b1,b2]:=fun h=>(hgw _ h).2 rfl
 have hwl:∀ k∈[g,b1,b2],w.heap.size≤k:=fun k hk=>by
  simp only [List.mem_cons,List.not_mem_nil,or_false] at hk
  rcases hk with rfl | rfl | rfl<;>omega
 have HWL:=Lib.hid hwl
 rw [← hg]
 replace HY:=Lib.hid (o3.heap HY.out (by simp))
 replace HZ:=Lib.hid (o3.heap HZ.out (by simp))
 replace HD1:=Lib.hid (HD1.out.kept o3 (by simp) (fun _ h=>h))
 replace HO:=Lib.hid (HO.out.trans o3 (by simp))
 have hW:=HW.out
 have hsizes:=hW.size
 have K2:=coperation_any (s:=CS.new) hck HD1.out hBn hW.params (by have:=hW.plen;omega) (wL_ok _ hW.needs) (wB_ok _ hW.body) (wL_ok _ hW.give) (by omega) (by omega) (by omega) (opG_few hW HP.out)
 have y0:w3.cell? ⟨w.heap.size,0,none⟩=some (.string sn):=cell_at 0 HY.out
 have y1:w3.cell? ⟨w.heap.size,1,none⟩=some (.slice a1 L1 c1):=cell_at 1 HY.out
 have y2:w3.cell? ⟨w.heap.size,2,none⟩=some (.slice a2 L2 c2):=cell_at 2 HY.out
 have y3:w3.cell? ⟨w.heap.size,3,none⟩=some (.slice a3 L3 c3):=cell_at 3 HY.out
 have y4:w3.cell? ⟨w.heap.size,4,none⟩=some (.slice a4 L4 c4):=cell_at 4 HY.out
 clear hm hm2 hck o3 hsz hg hb1 hb2 hw2 hBn hgw hwl hW hsizes
 go_wp2_with fail
 refine K2.mono ?_
 rintro en w4 ⟨m,st,nm,tu,rfl,hk4,hres,o4⟩
 replace HZ:=Lib.hid (o4.heap HZ.out hz1)
 have ow:Only [] w w4:=by
  have:=HO.out.trans (T:=[g,b1,b2]) o4 (fun k hk=>.inr (HWL.out k hk))
  exact this
 replace HO:=Lib.hid ow
 obtain ⟨fv,hrow,hflt⟩:=hk4.row
 have HK4:=Lib.hid hk4
 have hg4:=hk4.g_lt
 have k12:w4.cell? ⟨g,12,none⟩=some (.pointer fv):=cell_at 12 hrow
 have HR:=Lib.hid hres
 clear K2 hk4 hres o4 ow y0 y1 y2 y3 y4 hz0 hz1 HWL
 have hzg:w.heap.size+1≠g:=by
  intro e
  have h1:=HZ.out
  rw [e,hrow] at h1
  injection h1 with h1
  injection h1 with _ h2 _
  exact absurd h2 (by decide)
 clear hrow
 have o5:Only [] w4 (w4.alloc (.cells #[.int .i64 m,.int .i64 st,.int .i64 nm,.bool tu] 47)):=(Only.refl [] w4).alloc _
 have hX:=heap_new w4 (.cells #[.int .i64 m,.int .i64 st,.int .i64 nm,.bool tu] 47)
 cases hf:(opS CS.new d).flt with
 | some x=>
  obtain ⟨xc,xp⟩:=x
  rw [hf] at hflt
  obtain ⟨fb,rfl,hfb⟩:=hflt
  have HF:=Lib.hid hf
  have HFB:=Lib.hid hfb
  clear hf hfb
  have HX:=Lib.hid hX
  have HO5:=Lib.hid o5
  clear hX o5
  go_upto_region 6 with (fail)
  have o5:=HO5.out
  generalize (w4.alloc (.cells #[.int .i64 m,.int .i64 st,.int .i64 nm,.bool tu] 47))=w5 at o5⊢
  replace HZ:=Lib.hid (o5.heap HZ.out (by simp))
  replace HFB:=Lib.hid (o5.heap HFB.out (by simp))
  have k5:=cell_kept o5 k12 (by simp)
  replace HO:=Lib.hid (HO.out.trans o5 (by simp))
  clear k12 o5 HO5 HX
  have oD:Only [] w5 w5.drew:=(Only.refl [] w5).drew
  refine wp_region_held_drew (S:=fun w'=>w'.cell? ⟨g,12,none⟩=some (.pointer (some ⟨fb,0,none⟩))) (by kernel_rfl) (cell_kept oD k5 (by simp)) (fun hH=>?_)
  replace HZ:=Lib.hid (oD.heap HZ.out (by simp))
  replace HFB:=Lib.hid (oD.heap HFB.out (by simp))
  replace HO:=Lib.hid (HO.out.trans oD (by simp))
  clear oD k5
  generalize w5.drew=wd at HZ HFB HO hH⊢
  have HK12:=Lib.hid hH
  refine take_list (i:=0) (v:=?_) rfl (by kernel_rfl) (by kernel_rfl) (by kernel_rfl) (fun _ _ _ h=>h) (Or.inl ⟨by rfl,?_⟩) hH ?_
  rotate_left
  ·((intro w hSw;(try dsimp only at hSw);go_simp);try with_reducible rfl)
  simp only [Act.put,List.setIfInBounds_toArray,List.set_cons_zero,List.set_cons_succ]
  refine take_list (i:=1) (v:=?_) rfl (by kernel_rfl) (by kernel_rfl) (by kernel_rfl) (fun _ _ _ h=>h) (Or.inl ⟨by rfl,?_⟩) hH ?_
  rotate_left
  ·((intro w hSw;(try dsimp only at hSw);go_simp);try with_reducible rfl)
  simp only [Act.put,List.setIfInBounds_toArray,List.set_cons_zero,List.set_cons_succ]
  refine take_list (i:=2) (v:=?_) rfl (by kernel_rfl) (by kernel_rfl) (by kernel_rfl) (fun _ _ _ h=>h) (Or.inl ⟨by rfl,?_⟩) hH ?_
  rotate_left
  ·((intro w hSw;(try dsimp only at hSw);go_simp);try with_reducible rfl)
  simp only [Act.put,List.setIfInBounds_toArray,List.set_cons_zero,List.set_cons_succ]
  refine take_list (i:=3) (v:=?_) rfl (by kernel_rfl) (by kernel_rfl) (by kernel_rfl) (fun _ _ _ h=>h) (Or.inl ⟨by rfl,?_⟩) hH ?_
  rotate_left
  ·((intro w hSw;(try dsimp only at hSw);go_simp);try with_reducible rfl)
  simp only [Act.put,List.setIfInBounds_toArray,List.set_cons_zero,List.set_cons_succ]
  have s0:wd.cell? ⟨w.heap.size+1,0,none⟩=some (.int .i64 0):=cell_at 0 HZ.out
  have s1:wd.cell? ⟨w.heap.size+1,1,none⟩=some (.int .i64 0):=cell_at 1 HZ.out
  have s2:wd.cell? ⟨w.heap.size+1,2,none⟩=some (.int .i64 0):=cell_at 2 HZ.out
  have s3:wd.cell? ⟨w.heap.size+1,3,none⟩=some (.bool false):=cell_at 3 HZ.out
  have gs0:=free_at 0 HZ.out
  have gs1:=free_at 1 HZ.out
  have gs2:=free_at 2 HZ.out
  have gs3:=free_at 3 HZ.out
  clear hH
  refine wpAnyH_ready (rs:=[4]) (by kernel_rfl) (by simp) ?_
  refine ready_list rfl (fun K hK=>?_)
  go_simp
  have oz:Only [w.heap.size+1] wd ((((wd.setCell ⟨w.heap.size+1,0,none⟩ (.int .i64 0)).setCell ⟨w.heap.size+1,1,none⟩ (.int .i64 0)).setCell ⟨w.heap.size+1,2,none⟩ (.int .i64 0)).setCell ⟨w.heap.size+1,3,none⟩ (.bool false)):=
   ((((Only.refl _ _).setCell (.inl (by simp)) _).setCell (.inl (by simp)) _).setCell (.inl (by simp)) _).setCell (.inl (by simp)) _
  have hz:=four_set HZ.out (.int .i64 0) (.int .i64 0) (.int .i64 0) (.bool false)
  generalize (((wd.setCell ⟨w.heap.size+1,0,none⟩ (.int .i64 0)).setCell ⟨w.heap.size+1,1,none⟩ (.int .i64 0)).setCell ⟨w.heap.size+1,2,none⟩ (.int .i64 0)).setCell ⟨w.heap.size+1,3,none⟩ (.bool false)=wz at oz hz⊢
  refine hK.out _ _ (cell_kept oz HK12.out (by simpa using hzg.symm)) (fun hH=>?_)
  clear hK K s0 s1 s2 s3 gs0 gs1 gs2 gs3
  refine take_list (i:=5) (v:=?_) rfl (by kernel_rfl) (by kernel_rfl) (by kernel_rfl) (fun _ _ _ h=>h) (Or.inl ⟨by rfl,?_⟩) hH ?_
  rotate_left
  ·((intro w hSw;(try dsimp only at hSw);go_simp);try with_reducible rfl)
  simp only [Act.put,List.setIfInBounds_toArray,List.set_cons_zero,List.set_cons_succ]
  refine wpAnyH_done (by kernel_rfl) ?_ _
  clear hH
  go_wp2_with fail
  (try simp only [Exit.inBlock,Exit.then])
  refine bodyPost_ret (res_check _ _ (w.heap.size+1) _ _ _ _ _ rfl rfl hz) rfl ?_
  have hchk:chkD d=(infoZ,xc,xp):=by unfold chkD;rw [HF.out]
  refine ⟨_,by rw [hchk];rfl,?_,HO.out.trans (T:=[w.heap.size+1]) oz (fun k hk=>.inr (by rw [List.mem_singleton.1 hk];omega))⟩
  rw [HF.out]
  refine ⟨fb,rfl,oz.heap HFB.out (fun hk=>?_)⟩
  have h1:=HZ.out
  rw [← List.mem_singleton.1 hk,HFB.out] at h1
  injection h1 with h1
  injection h1 with _ h2 _
  exact absurd h2 (by decide)
 | none=>
  rw [hf] at hflt
  obtain rfl:fv=none:=hflt
  have HF:=Lib.hid hf
  clear hf
  have HX:=Lib.hid hX
  have HO5:=Lib.hid o5
  clear hX o5
  go_upto_region 7 with (fail)
  have o5:=HO5.out
  have hX:=HX.out
  generalize (w4.alloc (.cells #[.int .i64 m,.int .i64 st,.int .i64 nm,.bool tu] 47))=w5 at o5 hX⊢
  have hZ:=o5.heap HZ.out (by simp)
  replace HO:=Lib.hid (HO.out.trans o5 (by simp))
  have s0:w5.cell? ⟨w.heap.size+1,0,none⟩=some (.int .i64 0):=cell_at 0 hZ
  have s1:w5.cell? ⟨w.heap.size+1,1,none⟩=some (.int .i64 0):=cell_at 1 hZ
  have s2:w5.cell? ⟨w.heap.size+1,2,none⟩=some (.int .i64 0):=cell_at 2 hZ
  have s3:w5.cell? ⟨w.heap.size+1,3,none⟩=some (.bool false):=cell_at 3 hZ
  have gs0:=free_at 0 hZ
  have gs1:=free_at 1 hZ
  have gs2:=free_at 2 hZ
  have gs3:=free_at 3 hZ
  have x0:w5.cell? ⟨w4.heap.size,0,none⟩=some (.int .i64 m):=cell_at 0 hX
  have x1:w5.cell? ⟨w4.heap.size,1,none⟩=some (.int .i64 st):=cell_at 1 hX
  have x2:w5.cell? ⟨w4.heap.size,2,none⟩=some (.int .i64 nm):=cell_at 2 hX
  have x3:w5.cell? ⟨w4.heap.size,3,none⟩=some (.bool tu):=cell_at 3 hX
  replace HZ:=Lib.hid hZ
  clear hX hZ HX o5 HO5 k12
  go_wp2_with fail
  have oz:Only [w.heap.size+1] w5 ((((w5.setCell ⟨w.heap.size+1,0,none⟩ (.int .i64 m)).setCell ⟨w.heap.size+1,1,none⟩ (.int .i64 st)).setCell ⟨w.heap.size+1,2,none⟩ (.int .i64 nm)).setCell ⟨w.heap.size+1,3,none⟩ (.bool tu)):=
   ((((Only.refl _ _).setCell (.inl (by simp)) _).setCell (.inl (by simp)) _).setCell (.inl (by simp)) _).setCell (.inl (by simp)) _
  have hz:=four_set HZ.out (.int .i64 m) (.int .i64 st) (.int .i64 nm) (.bool tu)
  generalize (((w5.setCell ⟨w.heap.size+1,0,none⟩ (.int .i64 m)).setCell ⟨w.heap.size+1,1,none⟩ (.int .i64 st)).setCell ⟨w.heap.size+1,2,none⟩ (.int .i64 nm)).setCell ⟨w.heap.size+1,3,none⟩ (.bool tu)=wz at oz hz⊢
  refine bodyPost_ret (res_check _ _ (w.heap.size+1) _ _ _ _ _ rfl rfl hz) rfl ?_
  obtain ⟨rfl,rfl,rfl,rfl⟩:=HR.out HF.out
  have hchk:chkD d=(opI CS.new d,0,0):=by unfold chkD;rw [HF.out]
  refine ⟨_,by rw [hchk];rfl,?_,HO.out.trans (T:=[w.heap.size+1]) oz (fun k hk=>.inr (by rw [List.mem_singleton.1 hk];omega))⟩
  rw [HF.out]
  rfl
end Go.Proofs.Ytiaeagpepfmfgaa
namespace Go.Proofs.Ytiaeagpepfmfgaa
open Go.RowKit Go.Maps
set_option linter.unusedSimpArgs false
set_option linter.unusedVariables false
theorem parseS_code {l:Sec} {k q:Nat} (h:parseS l=.error (k,q)):0 < k:=by
 unfold parseS at h
 repeat' split at h
 all_goals first | (cases h;done) | (cases h;decide)
theorem chkD_flt (d:Df):((opS CS.new d).flt.getD (0,0))=(chkD d).2:=by
 unfold chkD
 cases (opS CS.new d).flt with
 | none=>rfl
 | some x=>rfl
end Go.Proofs.Ytiaeagpepfmfgaa
namespace Go.Proofs.Ytiaeagpepfmfgaa
open Go.RowKit Go.Maps
set_option linter.unusedSimpArgs false
set_option linter.unusedVariables false
abbrev Env:=List (Sec×Int)
structure RS where
 decl:List Sec
 code:Int
 at_:Int
def RS.fail (r:RS) (c p:Int):RS:=if r.code=0 then {r with code:=c,at_:=p } else r
def RS.declare (r:RS) (nm:Sec) (p:Int):RS:=if nm∈r.decl then r.fail 9 p else if 16≤r.decl.length then r.fail 15 p else {r with decl:=r.decl++[nm] }
def lookE:Env→Sec→Option Int
 | [],_=>none
 | x :: l,nm=>if x.1=nm then some x.2 else lookE l nm
def wantsR (k:Int) (nm:Sec) (i:Nat) (ts:List Int):Int:=
 if k=4 then 2 else if k≠6 then 1 else if nm=[38,38]∨nm=[124,124] then 2
 else if nm=[61,61]∨nm=[33,61] then (if i=0 then 0 else (ts[0]?).getD 0) else 1
abbrev ar5 (nm:Sec):Prop:=nm=[43]∨nm=[45]∨nm=[42]∨nm=[47]∨nm=[37]
def typeR (r:RS) (k:Int) (nm:Sec) (p:Int) (env:Env):Int×RS:=
 if k=2 then (if nm=[116,114,117,101]∨nm=[102,97,108,115,101] then (2,r) else match lookE env nm with
  | some t=>(t,r)
  | none=>(1,r.fail 9 p))
 else if k=4 then (2,r) else if k=6 then (if ar5 nm then 1 else 2,r) else (1,r)
mutual
def kindR:RS→E→Env→Int×RS
 | r,.mk k _ nm xs p,env=>typeR (argsR r k nm xs env []) k nm p env
def argsR:RS→Int→Sec→List E→Env→List Int→RS
 | r,_,_,[],_,_=>r
 | r,k,nm,e :: es,env,ts=>
  argsR (if wantsR k nm ts.length (ts++[(kindR r e env).1])≠0∧(kindR r e env).1≠wantsR k nm ts.length (ts++[(kindR r e env).1]) then (kindR r e env).2.fail 10 e.pos else (kindR r e env).2) k nm es env (ts++[(kindR r e env).1])
end
def needR (r:RS) (e:E) (want:Int) (env:Env):RS:=if (kindR r e env).1≠want then (kindR r e env).2.fail 10 e.pos else (kindR r e env).2
theorem fail_keep {s:CS} {x:Int×Int} (h:s.flt=some x) (c p:Int):(s.fail c p).flt=some x:=by
 unfold CS.fail
 rw [h]
 exact h
theorem declare_keep {s:CS} {x:Int×Int} (h:s.flt=some x) (nm:Sec) (t p:Int):(s.declare nm t p).flt=some x:=by
 unfold CS.declare
 split
 ·exact fail_keep h _ _
 ·split
  ·exact fail_keep h _ _
  ·exact h
theorem look_keep {s:CS} {x:Int×Int} (h:s.flt=some x) (nm:Sec) (p:Int):(s.look nm p).2.flt=some x:=by
 unfold CS.look
 split
 ·exact h
 ·split
  ·exact h
  ·exact fail_keep h _ _
mutual
theorem exprC_keep:∀ (e:E) (s:CS) (x:Int×Int),s.flt=some x→(exprC s e).2.flt=some x
 | .mk k n nm xs p,s,x,h=>by
  unfold exprC
  split
  ·exact look_keep h _ _
  ·split
   ·exact typedC_keep xs _ _ x h
   ·split
    ·exact typedC_keep xs _ _ x h
    ·split
     ·exact typedC_keep xs _ _ x h
     ·split
      ·split
       ·exact alikeC_keep xs _ x h
       ·exact typedC_keep xs _ _ x h
      ·exact h
theorem typedC_keep:∀ (xs:List E) (s:CS) (want:Int) (x:Int×Int),s.flt=some x→(typedC s want xs).flt=some x
 | [],s,want,x,h=>by unfold typedC;exact h
 | e :: es,s,want,x,h=>by
  unfold typedC
  refine typedC_keep es _ _ x ?_
  split
  ·exact exprC_keep e s x h
  ·exact fail_keep (exprC_keep e s x h) _ _
theorem alikeC_keep:∀ (xs:List E) (s:CS) (x:Int×Int),s.flt=some x→(alikeC s xs).flt=some x
 | [],s,x,h=>by unfold alikeC;exact h
 | e :: es,s,x,h=>by
  unfold alikeC
  exact typedC_keep es _ _ x (exprC_keep e s x h)
end
mutual
theorem stmtC_keep:∀ (x:St) (s:CS) (y:Int×Int),s.flt=some y→(stmtC s x).flt=some y
 | .mk k nm xs n bd els p,s,y,h=>by
  unfold stmtC
  split
  ·split
   ·exact h
   ·exact declare_keep (exprC_keep _ _ y h) _ _ _
  ·split
   ·exact stmtsC_keep els _ y (stmtsC_keep bd _ y (typedC_keep xs _ _ y h))
   ·split
    ·refine stmtsC_keep bd _ y ?_
     split
     ·exact fail_keep (declare_keep h _ _ _) _ _
     ·exact declare_keep h _ _ _
    ·exact typedC_keep xs _ _ y h
theorem stmtsC_keep:∀ (xs:List St) (s:CS) (y:Int×Int),s.flt=some y→(stmtsC s xs).flt=some y
 | [],s,y,h=>by unfold stmtsC;exact h
 | x :: xs,s,y,h=>by
  unfold stmtsC
  exact stmtsC_keep xs _ y (stmtC_keep x (s.bump x.kind) y h)
end
def RS.bad (r:RS) (x:Int×Int):Prop:=r.code=x.1∧r.at_=x.2∧x.1≠0
theorem RS.bad.fail {r:RS} {x:Int×Int} (h:r.bad x) (c p:Int):(r.fail c p).bad x:=by
 unfold RS.fail
 rw [if_neg (by rw [h.1];exact h.2.2)]
 exact h
theorem RS.bad.declare {r:RS} {x:Int×Int} (h:r.bad x) (nm:Sec) (p:Int):(r.declare nm p).bad x:=by
 unfold RS.declare
 split
 ·exact h.fail _ _
 ·split
  ·exact h.fail _ _
  ·exact h
theorem RS.bad.type {r:RS} {x:Int×Int} (h:r.bad x) (k:Int) (nm:Sec) (p:Int) (env:Env):(typeR r k nm p env).2.bad x:=by
 unfold typeR
 split
 ·split
  ·exact h
  ·split
   ·exact h
   ·exact h.fail _ _
 ·split
  ·exact h
  ·split
   ·exact h
   ·exact h
mutual
theorem RS.bad.kind:∀ (e:E) (r:RS) (x:Int×Int) (env:Env),r.bad x→(kindR r e env).2.bad x
 | .mk k n nm xs p,r,x,env,h=>by
  unfold kindR
  exact (RS.bad.args xs r x k nm env [] h).type _ _ _ _
theorem RS.bad.args:∀ (xs:List E) (r:RS) (x:Int×Int) (k:Int) (nm:Sec) (env:Env) (ts:List Int),r.bad x→(argsR r k nm xs env ts).bad x
 | [],r,x,k,nm,env,ts,h=>by unfold argsR;exact h
 | e :: es,r,x,k,nm,env,ts,h=>by
  unfold argsR
  refine RS.bad.args es _ x k nm env _ ?_
  split
  ·exact (RS.bad.kind e r x env h).fail _ _
  ·exact RS.bad.kind e r x env h
end
theorem RS.bad.need {r:RS} {x:Int×Int} (h:r.bad x) (e:E) (want:Int) (env:Env):(needR r e want env).bad x:=by
 unfold needR
 split
 ·exact (RS.bad.kind e r x env h).fail _ _
 ·exact RS.bad.kind e r x env h
structure Agree (s:CS) (r:RS) (env:Env):Prop where
 bad:∀ x,s.flt=some x→r.bad x
 good:s.flt=none→r.code=0∧s.decl=r.decl∧(∀ z,s.known z=lookE env z)∧(∀ z t,s.known z=some t→(t=1∨t=2)∧z∈s.decl)∧s.decl.length≤16
theorem Agree.of_bad {s:CS} {r:RS} {env:Env} {x:Int×Int} (h1:s.flt=some x) (h2:r.bad x):Agree s r env:=
 ⟨fun y e=>by rw [h1] at e;cases e;exact h2,fun e=>by rw [h1] at e;cases e⟩
theorem Agree.fail {s:CS} {r:RS} {env env':Env} (h:Agree s r env) {c:Int} (hc:c≠0) (p:Int):Agree (s.fail c p) (r.fail c p) env':=by
 cases hf:s.flt with
 | some x=>exact .of_bad (fail_keep hf _ _) ((h.bad x hf).fail _ _)
 | none=>
  have h0:=(h.good hf).1
  refine Agree.of_bad (x:=(c,p)) (by unfold CS.fail;rw [hf]) ?_
  unfold RS.fail
  rw [if_pos h0]
  exact ⟨rfl,rfl,hc⟩
theorem opr_mem {nm:Sec} (h:(opr nm).2≠0):nm∈([[124,124],[38,38],[60],[60,61],[62],[62,61],[61,61],[33,61],[43],[45],[42],[47],[37]]:List Sec):=by
 apply Classical.byContradiction
 intro hn
 simp only [List.mem_cons,List.not_mem_nil,or_false,not_or] at hn
 refine h ?_
 unfold opr
 simp only [hn,if_false,or_self]
theorem opr_ar {nm:Sec} (h:(opr nm).2≠0):(opr nm).2=if ar5 nm then 1 else 2:=by
 have key:∀ y∈([[124,124],[38,38],[60],[60,61],[62],[62,61],[61,61],[33,61],[43],[45],[42],[47],[37]]:List Sec),(opr y).2=if ar5 y then 1 else 2:=by decide
 exact key nm (opr_mem h)
theorem opr_wants {nm:Sec} (h:(opr nm).2≠0):(opr nm).1=(if nm=[38,38]∨nm=[124,124] then 2 else if nm=[61,61]∨nm=[33,61] then 0 else 1):=by
 have key:∀ y∈([[124,124],[38,38],[60],[60,61],[62],[62,61],[61,61],[33,61],[43],[45],[42],[47],[37]]:List Sec),(opr y).1=(if y=[38,38]∨y=[124,124] then 2 else if y=[61,61]∨y=[33,61] then 0 else 1):=by decide
 exact key nm (opr_mem h)
theorem Agree.kept {s s':CS} {r:RS} {env:Env} (h:Agree s r env) (h1:s'.flt=s.flt) (h2:s'.decl=s.decl) (h3:s'.known=s.known):Agree s' r env:=
 ⟨fun x e=>h.bad x (h1 ▸ e),fun e=>by rw [h2,h3];exact h.good (h1 ▸ e)⟩
def KindA (s:CS) (e:E) (r:RS) (env:Env):Prop:=Agree (exprC s e).2 (kindR r e env).2 env∧((exprC s e).2.flt=none→(exprC s e).1=(kindR r e env).1∧((exprC s e).1=1∨(exprC s e).1=2))
theorem agree_one {s:CS} {r:RS} {env:Env} {e:E} {want:Int} (h:KindA s e r env) :
  Agree (if (exprC s e).1=want then (exprC s e).2 else (exprC s e).2.fail 10 e.pos) (needR r e want env) env:=by
 unfold needR
 cases hf:(exprC s e).2.flt with
 | some x=>
  have hb:=h.1.bad x hf
  refine Agree.of_bad (x:=x) ?_ ?_
  ·split
   ·exact hf
   ·exact fail_keep hf _ _
  ·split
   ·exact hb.fail _ _
   ·exact hb
 | none=>
  obtain ⟨h1,h2⟩:=h.2 hf
  rw [h1]
  by_cases hw:(kindR r e env).1=want
  ·rw [if_pos hw,if_neg (fun n=>n hw)]
   exact h.1
  ·rw [if_neg hw,if_pos hw]
   exact h.1.fail (by decide) _
theorem argsR_one {r:RS} {k:Int} {nm:Sec} {e:E} {es:List E} {env:Env} {ts:List Int} {want:Int} (hw:wantsR k nm ts.length (ts++[(kindR r e env).1])=want) (h0:want≠0) :
  argsR r k nm (e :: es) env ts=argsR (needR r e want env) k nm es env (ts++[(kindR r e env).1]):=by
 conv=>lhs;unfold argsR
 rw [hw]
 unfold needR
 congr 1
 by_cases hx:(kindR r e env).1=want
 ·rw [if_neg (fun n=>n.2 hx),if_neg (fun n=>n hx)]
 ·rw [if_pos ⟨h0,hx⟩,if_pos hx]
mutual
theorem kind_agree:∀ (e:E) (s:CS) (r:RS) (env:Env),wE e→Agree s r env→KindA s e r env
 | .mk k n nm xs p,s,r,env,hw,h=>by
  unfold wE at hw
  obtain ⟨hk,hn,hxs⟩:=hw
  cases hf:s.flt with
  | some x=>
   have hb:=h.bad x hf
   have h1:=exprC_keep (.mk k n nm xs p) s x hf
   exact ⟨.of_bad h1 (RS.bad.kind _ r x env hb),fun e=>by rw [h1] at e;cases e⟩
  | none=>
   obtain ⟨g1,g2,g3,g4,g5⟩:=h.good hf
   unfold KindA exprC kindR
   by_cases h2:k=2
   ·subst h2
    have hx:xs=[]:=by
     rcases hk with hk | hk | hk
     ·exact List.eq_nil_of_length_eq_zero hk.2
     ·omega
     ·omega
    subst hx
    rw [show argsR r 2 nm [] env []=r by unfold argsR;rfl]
    simp only [if_true]
    unfold CS.look typeR
    simp only [if_true]
    by_cases ht:nm=[116,114,117,101]∨nm=[102,97,108,115,101]
    ·rw [if_pos ht,if_pos ht]
     exact ⟨h,fun _=>⟨rfl,.inr rfl⟩⟩
    ·rw [if_neg ht,if_neg ht,g3 nm]
     cases hl:lookE env nm with
     | some t=>
      exact ⟨h,fun _=>⟨rfl,(g4 nm t (by rw [g3 nm,hl])).1⟩⟩
     | none=>
      exact ⟨h.fail (by decide) p,fun e=>absurd e (fail_flt _ _ _)⟩
   ·rw [if_neg h2]
    have tail:∀ (r':RS),typeR r' k nm p env=(if k=4 then 2 else if k=6 then (if ar5 nm then 1 else 2) else 1,r'):=fun r'=>by
     unfold typeR
     rw [if_neg h2]
     split
     ·rfl
     ·split<;>rfl
    rw [tail]
    by_cases h3:k=3
    ·subst h3
     rw [if_pos rfl,if_neg (by decide),if_neg (by decide)]
     exact ⟨args_agree xs _ r env 3 nm 1 [] hxs (fun _ _=>rfl) (by decide) (h.kept rfl rfl rfl),fun _=>⟨rfl,.inl rfl⟩⟩
    ·rw [if_neg h3]
     by_cases h5:k=5
     ·subst h5
      rw [if_pos rfl,if_neg (by decide),if_neg (by decide)]
      exact ⟨args_agree xs _ r env 5 nm 1 [] hxs (fun _ _=>rfl) (by decide) h,fun _=>⟨rfl,.inl rfl⟩⟩
     ·rw [if_neg h5]
      by_cases h4:k=4
      ·subst h4
       rw [if_pos rfl,if_pos rfl]
       refine ⟨args_agree xs _ r env 4 nm 2 [] hxs (fun _ _=>rfl) (by decide) h,fun _=>⟨rfl,.inr rfl⟩⟩
      ·rw [if_neg h4]
       by_cases h6:k=6
       ·subst h6
        have ho:xs.length=2∧(opr nm).2≠0:=by
         rcases hk with hk | hk | hk
         ·omega
         ·omega
         ·exact hk.2
        have hty:=opr_ar ho.2
        have hwt:=opr_wants ho.2
        have h12:(opr nm).2=1∨(opr nm).2=2:=by rw [hty];split<;>simp
        have e64:∀ b:Int,(if (6:Int)=4 then (2:Int) else if (6:Int)=6 then b else 1)=b:=fun _=>rfl
        rw [if_pos rfl,e64]
        by_cases hz:(opr nm).1=0
        ·rw [if_pos hz]
         refine ⟨?_,fun _=>⟨hty,h12⟩⟩
         have hnm:¬ (nm=[38,38]∨nm=[124,124])∧(nm=[61,61]∨nm=[33,61]):=by
          by_cases q1:nm=[38,38]∨nm=[124,124]
          ·rw [if_pos q1,hz] at hwt
           omega
          ·rw [if_neg q1] at hwt
           by_cases q2:nm=[61,61]∨nm=[33,61]
           ·exact ⟨q1,q2⟩
           ·rw [if_neg q2,hz] at hwt
            omega
         match xs,ho.1,hxs with
         | [a,b],_,hxs=>
          unfold wL wL at hxs
          have ka:=kind_agree a s r env hxs.1 h
          unfold alikeC
          have e1:argsR r 6 nm [a,b] env []=argsR (kindR r a env).2 6 nm [b] env [(kindR r a env).1]:=by
           conv=>lhs;unfold argsR
           have:wantsR 6 nm ([]:List Int).length ([]++[(kindR r a env).1])=0:=by
            unfold wantsR
            rw [if_neg (by decide),if_neg (by decide),if_neg hnm.1,if_pos hnm.2]
            rfl
           rw [this,if_neg (fun n=>n.1 rfl)]
           rfl
          rw [e1]
          cases hfa:(exprC s a).2.flt with
          | some x=>exact .of_bad (typedC_keep _ _ _ x hfa) (RS.bad.args _ _ x _ _ _ _ (ka.1.bad x hfa))
          | none=>
           obtain ⟨k1,k2⟩:=ka.2 hfa
           have e2:argsR (kindR r a env).2 6 nm [b] env [(kindR r a env).1]=needR (kindR r a env).2 b (exprC s a).1 env:=by
            rw [argsR_one (want:=(exprC s a).1) ?_ (by rcases k2 with k2 | k2<;>rw [k2]<;>decide)]
            ·unfold argsR
             rfl
            ·unfold wantsR
             rw [if_neg (by decide),if_neg (by decide),if_neg hnm.1,if_pos hnm.2,k1]
             rfl
           rw [e2]
           have kb:=kind_agree b (exprC s a).2 (kindR r a env).2 env hxs.2.1 ka.1
           unfold typedC typedC
           exact agree_one kb
        ·rw [if_neg hz]
         refine ⟨args_agree xs s r env 6 nm (opr nm).1 [] hxs (fun i ts=>?_) hz h,fun _=>⟨hty,h12⟩⟩
         unfold wantsR
         rw [if_neg (by decide),if_neg (by decide),hwt]
         by_cases q1:nm=[38,38]∨nm=[124,124]
         ·rw [if_pos q1,if_pos q1]
         ·rw [if_neg q1,if_neg q1]
          rw [if_neg q1] at hwt
          by_cases q2:nm=[61,61]∨nm=[33,61]
          ·rw [if_pos q2] at hwt
           exact absurd hwt hz
          ·rw [if_neg q2,if_neg q2]
       ·have hx:xs=[]:=by
         rcases hk with hk | hk | hk
         ·exact List.eq_nil_of_length_eq_zero hk.2
         ·omega
         ·omega
        subst hx
        rw [if_neg h6,if_neg h4,if_neg h6]
        rw [show argsR r k nm [] env []=r by unfold argsR;rfl]
        exact ⟨h,fun _=>⟨rfl,.inl rfl⟩⟩
theorem args_agree:∀ (xs:List E) (s:CS) (r:RS) (env:Env) (k:Int) (nm:Sec) (want:Int) (ts:List Int),wL xs→(∀ i ts,wantsR k nm i ts=want)→want≠0→Agree s r env→
  Agree (typedC s want xs) (argsR r k nm xs env ts) env
 | [],s,r,env,k,nm,want,ts,_,_,_,h=>by unfold typedC argsR;exact h
 | e :: es,s,r,env,k,nm,want,ts,hw,hwt,h0,h=>by
  unfold wL at hw
  rw [argsR_one (hwt _ _) h0]
  unfold typedC
  exact args_agree es _ _ env k nm want _ hw.2 hwt h0 (agree_one (kind_agree e s r env hw.1 h))
end
theorem need_agree {s:CS} {r:RS} {env:Env} {e:E} (want:Int) (hw:wE e) (h:Agree s r env):Agree (typedC s want [e]) (needR r e want env) env:=by
 unfold typedC typedC
 exact agree_one (kind_agree e s r env hw h)
end Go.Proofs.Ytiaeagpepfmfgaa
namespace Go.Proofs.Ytiaeagpepfmfgaa
open Go.RowKit Go.Maps
set_option linter.unusedSimpArgs false
set_option linter.unusedVariables false
mutual
def stmtD:RS→St→Env→RS×Env
 | r,.mk k nm xs n bd els p,env=>
  if k=1 then (match xs with | []=>(r,env) | x :: _=>((kindR r x env).2.declare nm p,env++[(nm,(kindR r x env).1)]))
  else if k=6 then (match xs with | []=>(r,env) | x :: _=>((blockD (blockD (needR r x 2 env) bd env).1 els env).1,env))
  else if k=7∨k=8 then ((blockD (if 64 < n then (r.declare nm p).fail 11 p else r.declare nm p) bd (env++[(nm,1)])).1,env)
  else (match xs with | x :: y :: _=>(needR (needR r x 1 env) y 1 env,env) | _=>(r,env))
def blockD:RS→List St→Env→RS×Env
 | r,[],env=>(r,env)
 | r,x :: xs,env=>blockD (stmtD r x env).1 xs (stmtD r x env).2
end
mutual
theorem RS.bad.stmt:∀ (e:St) (r:RS) (x:Int×Int) (env:Env),r.bad x→(stmtD r e env).1.bad x
 | .mk k nm xs n bd els p,r,x,env,h=>by
  unfold stmtD
  split
  ·split
   ·exact h
   ·exact (RS.bad.kind _ r x env h).declare _ _
  ·split
   ·split
    ·exact h
    ·exact RS.bad.block els _ x env (RS.bad.block bd _ x env (h.need _ _ _))
   ·split
    ·refine RS.bad.block bd _ x _ ?_
     split
     ·exact (h.declare _ _).fail _ _
     ·exact h.declare _ _
    ·split
     ·exact (h.need _ _ _).need _ _ _
     ·exact h
theorem RS.bad.block:∀ (xs:List St) (r:RS) (x:Int×Int) (env:Env),r.bad x→(blockD r xs env).1.bad x
 | [],r,x,env,h=>by unfold blockD;exact h
 | y :: xs,r,x,env,h=>by unfold blockD;exact RS.bad.block xs _ x _ (RS.bad.stmt y r x env h)
end
theorem lookE_cons (x:Sec×Int) (l:Env) (z:Sec):lookE (x :: l) z=if x.1=z then some x.2 else lookE l z:=rfl
theorem lookE_app:∀ (l m:Env) (z:Sec),lookE (l++m) z=match lookE l z with | some t=>some t | none=>lookE m z
 | [],m,z=>rfl
 | x :: l,m,z=>by
  rw [List.cons_append,lookE_cons,lookE_cons]
  by_cases h:x.1=z
  ·rw [if_pos h,if_pos h]
  ·rw [if_neg h,if_neg h]
   exact lookE_app l m z
theorem lookE_none:∀ (l:Env) (z:Sec),(∀ x∈l,x.1≠z)→lookE l z=none
 | [],z,_=>rfl
 | x :: l,z,h=>by
  rw [lookE_cons,if_neg (h x (by simp))]
  exact lookE_none l z (fun y hy=>h y (by simp [hy]))
def Grew (s s':CS) (env env':Env):Prop:=s.flt=none∧∃ (M:List Sec) (N:Env),s'.decl=s.decl++M∧env'=env++N∧(∀ x∈N,x.1∈M)∧∀ z∈M,z∉s.decl
def StA (s s':CS) (r':RS) (env env':Env):Prop:=Agree s' r' env'∧(s'.flt=none→Grew s s' env env')
theorem Grew.trans {s s1 s2:CS} {env env1 env2:Env} (h1:Grew s s1 env env1) (h2:Grew s1 s2 env1 env2):Grew s s2 env env2:=by
 obtain ⟨g1,M1,N1,a1,a2,a3,a4⟩:=h1
 obtain ⟨_,M2,N2,b1,b2,b3,b4⟩:=h2
 refine ⟨g1,M1++M2,N1++N2,by rw [b1,a1,List.append_assoc],by rw [b2,a2,List.append_assoc],fun x hx=>?_,fun z hz=>?_⟩
 ·rcases List.mem_append.1 hx with hx | hx
  ·exact List.mem_append.2 (.inl (a3 x hx))
  ·exact List.mem_append.2 (.inr (b3 x hx))
 ·rcases List.mem_append.1 hz with hz | hz
  ·exact a4 z hz
  ·intro hd
   exact b4 z hz (by rw [a1];exact List.mem_append.2 (.inl hd))
theorem StA.trans {s s1 s2:CS} {r1 r2:RS} {env env1 env2:Env} (h1:StA s s1 r1 env env1) (h2:StA s1 s2 r2 env1 env2):StA s s2 r2 env env2:=
 ⟨h2.1,fun e=>(h1.2 (h2.2 e).1).trans (h2.2 e)⟩
theorem StA.of_agree {s s':CS} {r':RS} {env:Env} (h:Agree s' r' env) (h1:s'.flt=none→s.flt=none) (h2:s'.flt=none→s'.decl=s.decl):StA s s' r' env env:=
 ⟨h,fun e=>⟨h1 e,[],[],by simp [h2 e],by simp,by simp,by simp⟩⟩
theorem StA.bad {s s':CS} {r':RS} {env env':Env} {x:Int×Int} (h1:s'.flt=some x) (h2:r'.bad x):StA s s' r' env env':=
 ⟨.of_bad h1 h2,fun e=>by rw [h1] at e;cases e⟩
theorem declare_agree {s:CS} {r:RS} {env:Env} (h:Agree s r env) (nm:Sec) (p:Int) {t t':Int} (ht:s.flt=none→t=t'∧(t=1∨t=2)):StA s (s.declare nm t p) (r.declare nm p) env (env++[(nm,t')]):=by
 cases hf:s.flt with
 | some x=>exact .bad (declare_keep hf _ _ _) ((h.bad x hf).declare _ _)
 | none=>
  obtain ⟨g1,g2,g3,g4,g5⟩:=h.good hf
  obtain ⟨rfl,ht2⟩:=ht hf
  unfold CS.declare RS.declare
  rw [← g2]
  by_cases hm:nm∈s.decl
  ·rw [if_pos hm,if_pos hm]
   have hb:=h.fail (env':=env++[(nm,t)]) (c:=9) (by decide) p
   exact ⟨hb,fun e=>absurd e (fail_flt _ _ _)⟩
  ·rw [if_neg hm,if_neg hm]
   by_cases hl:s.decl.length=16
   ·rw [if_pos hl,if_pos (by omega)]
    have hb:=h.fail (env':=env++[(nm,t)]) (c:=15) (by decide) p
    exact ⟨hb,fun e=>absurd e (fail_flt _ _ _)⟩
   ·rw [if_neg hl,if_neg (by omega)]
    have hnone:∀ z,lookE env z≠none→z∈s.decl:=fun z hz=>by
     cases hq:lookE env z with
     | none=>exact absurd hq hz
     | some v=>exact (g4 z v (by rw [g3 z,hq])).2
    refine ⟨⟨(fun x e=>by rw [show ({s with decl:=s.decl++[nm],known:=nput s.known nm t }:CS).flt=s.flt from rfl,hf] at e;cases e),fun _=>⟨g1,rfl,fun z=>?_,fun z v hz=>?_,?_⟩⟩,fun _=>⟨hf,[nm],[(nm,t)],rfl,rfl,by simp,by simpa using hm⟩⟩
    ·rw [lookE_app]
     show nput s.known nm t z=_
     unfold nput
     by_cases e:z=nm
     ·subst e
      rw [if_pos rfl]
      cases hq:lookE env z with
      | some v=>exact absurd (hnone z (by rw [hq];simp)) hm
      | none=>simp [lookE]
     ·rw [if_neg e,g3 z]
      cases hq:lookE env z with
      | some v=>rfl
      | none=>
       simp only [lookE]
       rw [if_neg (fun q=>e q.symm)]
    ·have hz:nput s.known nm t z=some v:=hz
     show _∧z∈s.decl++[nm]
     unfold nput at hz
     by_cases e:z=nm
     ·rw [if_pos e] at hz
      cases hz
      exact ⟨ht2,by simp [e]⟩
     ·rw [if_neg e] at hz
      exact ⟨(g4 z v hz).1,List.mem_append.2 (.inl (g4 z v hz).2)⟩
    ·show (s.decl++[nm]).length≤16
     simp
     omega
theorem forget_agree {s s':CS} {r r':RS} {env env':Env} (h:Agree s r env) (hs:StA s s' r' env env'):StA s (s'.forget s.decl.length) r' env env:=by
 cases hf:s'.flt with
 | some x=>exact .bad (show (s'.forget s.decl.length).flt=some x from hf) (hs.1.bad x hf)
 | none=>
  obtain ⟨hs0,M,N,a1,a2,a3,a4⟩:=hs.2 hf
  obtain ⟨g1,g2,g3,g4,g5⟩:=h.good hs0
  obtain ⟨k1,k2,k3,k4,k5⟩:=hs.1.good hf
  have hkn:∀ z,(s'.forget s.decl.length).known z=lookE env z:=fun z=>by
   show (match idx s'.decl z with | some c=>if (s.decl.length:Int)≤c then none else s'.known z | none=>s'.known z)=_
   unfold idx
   rw [a1]
   by_cases hz:z∈s.decl
   ·rw [if_pos (List.mem_append.2 (.inl hz))]
    have hlt:=List.idxOf_lt_length_of_mem hz
    have hi:(s.decl++M).idxOf z=s.decl.idxOf z:=by rw [List.idxOf_append,if_pos hz]
    rw [hi]
    simp only
    rw [if_neg (by omega),k3 z,a2,lookE_app]
    cases hq:lookE env z with
    | some v=>rfl
    | none=>exact lookE_none N z (fun x hx e=>a4 _ (a3 x hx) (e ▸ hz))
   ·have hl:lookE env z=none:=by
     cases hq:lookE env z with
     | none=>rfl
     | some v=>exact absurd (g4 z v (by rw [g3 z,hq])).2 hz
    rw [hl]
    by_cases hm:z∈M
    ·rw [if_pos (List.mem_append.2 (.inr hm))]
     have hi:(s.decl++M).idxOf z=M.idxOf z+s.decl.length:=by rw [List.idxOf_append,if_neg hz]
     rw [hi]
     simp only
     rw [if_pos (by omega)]
    ·rw [if_neg (fun e=>(List.mem_append.1 e).elim hz hm)]
     simp only
     rw [k3 z,a2,lookE_app,hl]
     exact lookE_none N z (fun x hx e=>hm (e ▸ a3 x hx))
  refine ⟨⟨(fun x e=>by rw [show (s'.forget s.decl.length).flt=s'.flt from rfl,hf] at e;cases e),fun _=>⟨k1,k2,hkn,fun z t hz=>?_,k5⟩⟩,fun _=>⟨hs0,M,[],a1,by simp,by simp,a4⟩⟩
  rw [hkn z,← g3 z] at hz
  obtain ⟨q1,q2⟩:=g4 z t hz
  exact ⟨q1,by show z∈s'.decl;rw [a1];exact List.mem_append.2 (.inl q2)⟩
mutual
theorem exprC_decl:∀ (e:E) (s:CS),(exprC s e).2.decl=s.decl
 | .mk k n nm xs p,s=>by
  unfold exprC
  split
  ·unfold CS.look
   split
   ·rfl
   ·split
    ·rfl
    ·unfold CS.fail
     split<;>rfl
  ·split
   ·rw [typedC_decl xs]
   ·split
    ·exact typedC_decl xs _ _
    ·split
     ·exact typedC_decl xs _ _
     ·split
      ·split
       ·exact alikeC_decl xs _
       ·exact typedC_decl xs _ _
      ·rfl
theorem typedC_decl:∀ (xs:List E) (s:CS) (want:Int),(typedC s want xs).decl=s.decl
 | [],s,want=>by unfold typedC;rfl
 | e :: es,s,want=>by
  unfold typedC
  rw [typedC_decl es]
  split
  ·exact exprC_decl e s
  ·unfold CS.fail
   split<;>exact exprC_decl e s
theorem alikeC_decl:∀ (xs:List E) (s:CS),(alikeC s xs).decl=s.decl
 | [],s=>by unfold alikeC;rfl
 | e :: es,s=>by
  unfold alikeC
  rw [typedC_decl es]
  exact exprC_decl e s
end
theorem bump_agree {s:CS} {r:RS} {env:Env} (k:Int) (h:Agree s r env):Agree (s.bump k) r env:=h.kept rfl rfl rfl
mutual
theorem stmt_agree:∀ (x:St) (s:CS) (r:RS) (env:Env),wS x→Agree s r env→StA s (stmtC s x) (stmtD r x env).1 env (stmtD r x env).2
 | .mk k nm xs n bd els p,s,r,env,hw,h=>by
  unfold wS at hw
  obtain ⟨hk,hn,hx,hb,he⟩:=hw
  unfold stmtC stmtD
  by_cases h1:k=1
  ·rw [if_pos h1,if_pos h1]
   have hl:xs.length=1:=by rcases hk with hk | hk | hk<;>omega
   match xs,hl,hx with
   | [x],_,hx=>
    unfold wL at hx
    have ka:=kind_agree x s r env hx.1 h
    have hq:StA s (exprC s x).2 (kindR r x env).2 env env:=.of_agree ka.1 (exprC_mono x s) (fun _=>exprC_decl x s)
    exact hq.trans (declare_agree ka.1 nm p ka.2)
  ·rw [if_neg h1,if_neg h1]
   by_cases h6:k=6
   ·rw [if_pos h6,if_pos h6]
    have hl:xs.length=1:=by rcases hk with hk | hk | hk<;>omega
    match xs,hl,hx with
    | [x],_,hx=>
     unfold wL at hx
     have ka:=need_agree 2 hx.1 h
     have hq:StA s (typedC s 2 [x]) (needR r x 2 env) env env:=.of_agree ka (typedC_mono _ _ _) (fun _=>typedC_decl _ _ _)
     have hb1:=forget_agree ka (block_agree bd _ _ env hb ka)
     have hb2:=forget_agree hb1.1 (block_agree els _ _ env he hb1.1)
     exact (hq.trans hb1).trans hb2
   ·rw [if_neg h6,if_neg h6]
    by_cases h7:k=7∨k=8
    ·rw [if_pos h7,if_pos h7]
     have hd:=declare_agree (t:=1) (t':=1) h nm p (fun _=>⟨rfl,.inl rfl⟩)
     have hd2:StA s (if 64 < n then (s.declare nm 1 p).fail 11 p else s.declare nm 1 p) (if 64 < n then (r.declare nm p).fail 11 p else r.declare nm p) env (env++[(nm,1)]):=by
      split
      ·exact ⟨hd.1.fail (by decide) p,fun e=>absurd e (fail_flt _ _ _)⟩
      ·exact hd
     exact forget_agree h (hd2.trans (block_agree bd _ _ _ hb hd2.1))
    ·rw [if_neg h7,if_neg h7]
     have hl:xs.length=2:=by rcases hk with hk | hk | hk<;>omega
     match xs,hl,hx with
     | [x,y],_,hx=>
      unfold wL wL at hx
      have ka:=kind_agree x s r env hx.1 h
      have k1:=agree_one (want:=1) ka
      have k2:=agree_one (want:=1) (kind_agree y _ _ env hx.2.1 k1)
      have e:typedC s 1 [x,y]=(if (exprC (if (exprC s x).1=1 then (exprC s x).2 else (exprC s x).2.fail 10 x.pos) y).1=1 then (exprC (if (exprC s x).1=1 then (exprC s x).2 else (exprC s x).2.fail 10 x.pos) y).2 else (exprC (if (exprC s x).1=1 then (exprC s x).2 else (exprC s x).2.fail 10 x.pos) y).2.fail 10 y.pos):=by
       unfold typedC typedC typedC
       rfl
      exact .of_agree (by rw [e];exact k2) (typedC_mono _ _ _) (fun _=>typedC_decl _ _ _)
theorem block_agree:∀ (xs:List St) (s:CS) (r:RS) (env:Env),wB xs→Agree s r env→StA s (stmtsC s xs) (blockD r xs env).1 env (blockD r xs env).2
 | [],s,r,env,_,h=>by
  unfold stmtsC blockD
  exact .of_agree h (fun e=>e) (fun _=>rfl)
 | x :: xs,s,r,env,hw,h=>by
  unfold wB at hw
  unfold stmtsC blockD
  have h1:=stmt_agree x (s.bump x.kind) r env hw.1 (bump_agree _ h)
  have h2:=block_agree xs _ _ _ hw.2 h1.1
  have h3:=h1.trans h2
  exact ⟨h3.1,fun e=>h3.2 e⟩
end
end Go.Proofs.Ytiaeagpepfmfgaa
namespace Go.Proofs.Ytiaeagpepfmfgaa
open Go.RowKit Go.Maps
set_option linter.unusedSimpArgs false
set_option linter.unusedVariables false
mutual
def stN:St→Nat | .mk k _ xs n bd els _=>1+sizeL xs+(if k=6 then max (stNs 0 bd) (stNs 0 els) else if k=7∨k=8 then n.toNat*(1+stNs 0 bd) else 0)
def stNs:Nat→List St→Nat | acc,[]=>acc | acc,x :: xs=>stNs (min (acc+stN x) 1073741824) xs
end
mutual
theorem stN_st:∀ x:St,min (stN x) 2049=min (stS x) 2049
 | .mk k nm xs n bd els p=>by
  have h1:=stNs_st bd 0
  have h2:=stNs_st els 0
  rw [show min 0 2049=0 from rfl] at h1 h2
  unfold stN stS
  by_cases h6:k=6
  ·rw [if_pos h6,if_pos h6]
   omega
  ·rw [if_neg h6,if_neg h6]
   by_cases h7:k=7∨k=8
   ·rw [if_pos h7,if_pos h7]
    rcases Nat.le_total (stNs 0 bd) 2049 with hl | hl
    ·rw [show stB 0 bd=stNs 0 bd by omega]
    ·have hb:stB 0 bd=2049:=by omega
     rw [hb]
     rcases Nat.eq_zero_or_pos n.toNat with h0 | h0
     ·rw [h0];omega
     ·have q1:=Nat.le_mul_of_pos_left (1+stNs 0 bd) h0
      have q2:=Nat.le_mul_of_pos_left (1+2049) h0
      omega
   ·rw [if_neg h7,if_neg h7]
theorem stNs_st:∀ (xs:List St) (a:Nat),min (stNs a xs) 2049=stB (min a 2049) xs
 | [],a=>by unfold stNs stB;rfl
 | x :: xs,a=>by
  have h1:=stN_st x
  unfold stNs stB
  rw [stNs_st xs]
  congr 1
  omega
end
theorem stNs_le:∀ (xs:List St) (a:Nat),a≤1073741824→stNs a xs≤1073741824
 | [],a,h=>by unfold stNs;exact h
 | x :: xs,a,h=>by unfold stNs;exact stNs_le xs _ (by omega)
mutual
def cellE:E→Bool | .mk k _ _ xs _=>decide (k=3) || cellL xs
def cellL:List E→Bool | []=>false | e :: es=>cellE e || cellL es
end
mutual
def readS:St→Bool | .mk _ _ xs _ bd els _=>cellL xs || (readB bd || readB els)
def readB:List St→Bool | []=>false | x :: xs=>readS x || readB xs
end
mutual
def hasS (a b:Int):St→Bool | .mk k _ _ _ bd els _=>(decide (a≤k) && decide (k≤b)) || (hasB a b bd || hasB a b els)
def hasB (a b:Int):List St→Bool | []=>false | x :: xs=>hasS a b x || hasB a b xs
end
mutual
def cE:E→Nat | .mk k _ _ xs _=>(if k=3 then 1 else 0)+cL xs
def cL:List E→Nat | []=>0 | e :: es=>cE e+cL es
end
mutual
def cS:St→Nat | .mk _ _ xs _ bd els _=>cL xs+(cB bd+cB els)
def cB:List St→Nat | []=>0 | x :: xs=>cS x+cB xs
end
mutual
def kS (j:Nat):St→Nat | .mk k _ _ _ bd els _=>(if (j:Int)=k then 1 else 0)+(kB j bd+kB j els)
def kB (j:Nat):List St→Nat | []=>0 | x :: xs=>kS j x+kB j xs
end
mutual
theorem cE_pos:∀ e:E,cellE e=decide (0 < cE e)
 | .mk k n nm xs p=>by
  unfold cellE cE
  rw [cL_pos xs]
  by_cases h:k=3<;>simp [h]<;>omega
theorem cL_pos:∀ xs:List E,cellL xs=decide (0 < cL xs)
 | []=>by unfold cellL cL;rfl
 | e :: es=>by
  unfold cellL cL
  rw [cE_pos e,cL_pos es,Bool.eq_iff_iff]
  simp only [Bool.or_eq_true,decide_eq_true_eq]
  omega
end
mutual
theorem cS_pos:∀ x:St,readS x=decide (0 < cS x)
 | .mk k nm xs n bd els p=>by
  unfold readS cS
  rw [cL_pos xs,cB_pos bd,cB_pos els,Bool.eq_iff_iff]
  simp only [Bool.or_eq_true,decide_eq_true_eq]
  omega
theorem cB_pos:∀ xs:List St,readB xs=decide (0 < cB xs)
 | []=>by unfold readB cB;rfl
 | x :: xs=>by
  unfold readB cB
  rw [cS_pos x,cB_pos xs,Bool.eq_iff_iff]
  simp only [Bool.or_eq_true,decide_eq_true_eq]
  omega
end
mutual
theorem kS_one (j:Nat):∀ x:St,hasS j j x=decide (0 < kS j x)
 | .mk k nm xs n bd els p=>by
  unfold hasS kS
  rw [kB_one j bd,kB_one j els,Bool.eq_iff_iff]
  simp only [Bool.or_eq_true,Bool.and_eq_true,decide_eq_true_eq]
  by_cases h:(j:Int)=k
  ·rw [if_pos h];omega
  ·rw [if_neg h];omega
theorem kB_one (j:Nat):∀ xs:List St,hasB j j xs=decide (0 < kB j xs)
 | []=>by unfold hasB kB;rfl
 | x :: xs=>by
  unfold hasB kB
  rw [kS_one j x,kB_one j xs,Bool.eq_iff_iff]
  simp only [Bool.or_eq_true,decide_eq_true_eq]
  omega
end
mutual
theorem kS_all:∀ x:St,hasS 2 5 x=decide (0 < kS 2 x+kS 3 x+kS 4 x+kS 5 x)
 | .mk k nm xs n bd els p=>by
  unfold hasS kS
  rw [kB_all bd,kB_all els,Bool.eq_iff_iff]
  simp only [Bool.or_eq_true,Bool.and_eq_true,decide_eq_true_eq]
  constructor
  ·intro h
   rcases h with ⟨h1,h2⟩ | h | h
   ·have:k=2∨k=3∨k=4∨k=5:=by omega
    rcases this with rfl | rfl | rfl | rfl<;>simp<;>omega
   ·omega
   ·omega
  ·intro h
   by_cases h1:2≤k∧k≤5
   ·exact .inl h1
   ·right
    rw [if_neg (by omega),if_neg (by omega),if_neg (by omega),if_neg (by omega)] at h
    omega
theorem kB_all:∀ xs:List St,hasB 2 5 xs=decide (0 < kB 2 xs+kB 3 xs+kB 4 xs+kB 5 xs)
 | []=>by unfold hasB kB;rfl
 | x :: xs=>by
  unfold hasB kB
  rw [kS_all x,kB_all xs,Bool.eq_iff_iff]
  simp only [Bool.or_eq_true,decide_eq_true_eq]
  omega
end
theorem wrap64_small {n:Int} (h0:0≤n) (h1:n < 9223372036854775808):wrap64 n=n:=wrap64_id (by omega) h1
mutual
theorem cE_le:∀ e:E,cE e≤sizeE e
 | .mk k n nm xs p=>by
  have:=cL_le xs
  unfold cE sizeE
  split<;>omega
theorem cL_le:∀ xs:List E,cL xs≤sizeL xs
 | []=>by unfold cL;omega
 | e :: es=>by have:=cE_le e;have:=cL_le es;unfold cL sizeL;omega
end
theorem fail_ki (s:CS) (c p:Int):(s.fail c p).ki=s.ki:=by unfold CS.fail;split<;>rfl
theorem fail_cells (s:CS) (c p:Int):(s.fail c p).cells=s.cells:=by unfold CS.fail;split<;>rfl
theorem declare_ki (s:CS) (nm:Sec) (t p:Int):(s.declare nm t p).ki=s.ki:=by
 unfold CS.declare
 split
 ·exact fail_ki _ _ _
 ·split
  ·exact fail_ki _ _ _
  ·rfl
theorem declare_cells (s:CS) (nm:Sec) (t p:Int):(s.declare nm t p).cells=s.cells:=by
 unfold CS.declare
 split
 ·exact fail_cells _ _ _
 ·split
  ·exact fail_cells _ _ _
  ·rfl
theorem look_ki (s:CS) (nm:Sec) (p:Int):(s.look nm p).2.ki=s.ki:=by
 unfold CS.look
 split
 ·rfl
 ·split
  ·rfl
  ·exact fail_ki _ _ _
theorem look_cells (s:CS) (nm:Sec) (p:Int):(s.look nm p).2.cells=s.cells:=by
 unfold CS.look
 split
 ·rfl
 ·split
  ·rfl
  ·exact fail_cells _ _ _
mutual
theorem exprC_ki:∀ (e:E) (s:CS),(exprC s e).2.ki=s.ki
 | .mk k n nm xs p,s=>by
  unfold exprC
  split
  ·exact look_ki _ _ _
  ·split
   ·rw [typedC_ki xs]
   ·split
    ·exact typedC_ki xs _ _
    ·split
     ·exact typedC_ki xs _ _
     ·split
      ·split
       ·exact alikeC_ki xs _
       ·exact typedC_ki xs _ _
      ·rfl
theorem typedC_ki:∀ (xs:List E) (s:CS) (want:Int),(typedC s want xs).ki=s.ki
 | [],s,want=>by unfold typedC;rfl
 | e :: es,s,want=>by
  unfold typedC
  rw [typedC_ki es]
  split
  ·exact exprC_ki e s
  ·rw [fail_ki];exact exprC_ki e s
theorem alikeC_ki:∀ (xs:List E) (s:CS),(alikeC s xs).ki=s.ki
 | [],s=>by unfold alikeC;rfl
 | e :: es,s=>by
  unfold alikeC
  rw [typedC_ki es]
  exact exprC_ki e s
end
mutual
theorem exprC_cells:∀ (e:E) (s:CS),wE e→0≤s.cells→s.cells+sizeE e≤1000000→(exprC s e).2.cells=s.cells+cE e
 | .mk k n nm xs p,s,hw,h0,hb=>by
  unfold wE at hw
  obtain ⟨hk,hn,hx⟩:=hw
  unfold sizeE at hb
  unfold exprC cE
  by_cases h2:k=2
  ·rw [if_pos h2,if_neg (by omega)]
   have:xs=[]:=by
    rcases hk with hk | hk | hk
    ·exact List.eq_nil_of_length_eq_zero hk.2
    ·omega
    ·omega
   subst this
   rw [look_cells]
   unfold cL
   omega
  ·rw [if_neg h2]
   by_cases h3:k=3
   ·rw [if_pos h3,if_pos h3]
    have hw:wrap64 (s.cells+1)=s.cells+1:=wrap64_small (by omega) (by omega)
    rw [typedC_cells xs _ _ hx (by show 0≤wrap64 (s.cells+1);omega) (by show wrap64 (s.cells+1)+(sizeL xs:Int)≤1000000;omega)]
    show wrap64 (s.cells+1)+(cL xs:Int)=_
    omega
   ·rw [if_neg h3,if_neg h3]
    by_cases h5:k=5
    ·rw [if_pos h5]
     rw [typedC_cells xs _ _ hx h0 (by omega)]
     omega
    ·rw [if_neg h5]
     by_cases h4:k=4
     ·rw [if_pos h4]
      rw [typedC_cells xs _ _ hx h0 (by omega)]
      omega
     ·rw [if_neg h4]
      by_cases h6:k=6
      ·rw [if_pos h6]
       split
       ·rw [alikeC_cells xs _ hx h0 (by omega)]
        omega
       ·rw [typedC_cells xs _ _ hx h0 (by omega)]
        omega
      ·rw [if_neg h6]
       have:xs=[]:=by
        rcases hk with hk | hk | hk
        ·exact List.eq_nil_of_length_eq_zero hk.2
        ·omega
        ·omega
       subst this
       unfold cL
       simp
theorem typedC_cells:∀ (xs:List E) (s:CS) (want:Int),wL xs→0≤s.cells→s.cells+sizeL xs≤1000000→(typedC s want xs).cells=s.cells+cL xs
 | [],s,want,_,_,_=>by unfold typedC cL;simp
 | e :: es,s,want,hw,h0,hb=>by
  unfold wL at hw
  unfold sizeL at hb
  have h1:=exprC_cells e s hw.1 h0 (by omega)
  have h2:=cE_le e
  have h3:∀ s':CS,s'.cells=(exprC s e).2.cells→(typedC s' want es).cells=s'.cells+cL es:=fun s' e'=>typedC_cells es s' want hw.2 (by omega) (by omega)
  unfold typedC cL
  split
  ·rw [h3 _ rfl];omega
  ·rw [h3 _ (fail_cells _ _ _),fail_cells];omega
theorem alikeC_cells:∀ (xs:List E) (s:CS),wL xs→0≤s.cells→s.cells+sizeL xs≤1000000→(alikeC s xs).cells=s.cells+cL xs
 | [],s,_,_,_=>by unfold alikeC cL;simp
 | e :: es,s,hw,h0,hb=>by
  unfold wL at hw
  unfold sizeL at hb
  have h1:=exprC_cells e s hw.1 h0 (by omega)
  have h2:=cE_le e
  unfold alikeC cL
  rw [typedC_cells es _ _ hw.2 (by omega) (by omega)]
  omega
end
mutual
theorem cS_le:∀ x:St,cS x≤sizeS x
 | .mk k nm xs n bd els p=>by
  have:=cL_le xs;have:=cB_le bd;have:=cB_le els
  unfold cS sizeS
  omega
theorem cB_le:∀ xs:List St,cB xs≤sizeSs xs
 | []=>by unfold cB;omega
 | x :: xs=>by have:=cS_le x;have:=cB_le xs;unfold cB sizeSs;omega
end
theorem forget_cells (s:CS) (k:Int):(s.forget k).cells=s.cells:=rfl
theorem forget_ki (s:CS) (k:Int):(s.forget k).ki=s.ki:=rfl
theorem bump_cells (s:CS) (k:Int):(s.bump k).cells=s.cells:=rfl
mutual
theorem stmtC_cells:∀ (x:St) (s:CS),wS x→pS x→0≤s.cells→s.cells+sizeS x≤1000000→(stmtC s x).cells=s.cells+cS x
 | .mk k nm xs n bd els p,s,hw,hp,h0,hb=>by
  unfold wS at hw
  unfold pS at hp
  obtain ⟨hs,hn,hx,hbd,he⟩:=hw
  obtain ⟨p1,p2,p3,p4⟩:=hp
  unfold sizeS at hb
  have q1:=cL_le xs
  have q2:=cB_le bd
  unfold stmtC cS
  by_cases h1:k=1
  ·rw [if_pos h1]
   obtain rfl:=p1 (by omega)
   obtain rfl:=p2 (by omega)
   have hl:xs.length=1:=by rcases hs with hk | hk | hk<;>omega
   match xs,hl,hx with
   | [x],_,hx=>
    unfold wL at hx
    unfold sizeL sizeL at hb
    show ((exprC s x).2.declare nm (exprC s x).1 p).cells=_
    rw [declare_cells,exprC_cells x s hx.1 h0 (by omega)]
    unfold cL cL cB
    omega
  ·rw [if_neg h1]
   by_cases h6:k=6
   ·rw [if_pos h6]
    have t1:=typedC_cells xs s 2 hx h0 (by omega)
    have t2:=stmtsC_cells bd (typedC s 2 xs) hbd p3 (by omega) (by omega)
    have t3:=stmtsC_cells els ((stmtsC (typedC s 2 xs) bd).forget (typedC s 2 xs).decl.length) he p4 (by rw [forget_cells];omega) (by rw [forget_cells];omega)
    rw [forget_cells,t3,forget_cells]
    omega
   ·rw [if_neg h6]
    obtain rfl:=p1 h6
    by_cases h7:k=7∨k=8
    ·rw [if_pos h7,forget_cells]
     have hl:xs.length=0:=by rcases hs with hk | hk | hk<;>omega
     obtain rfl:=List.eq_nil_of_length_eq_zero hl
     have hd:(if 64 < n then (s.declare nm 1 p).fail 11 p else s.declare nm 1 p).cells=s.cells:=by
      split
      ·rw [fail_cells,declare_cells]
      ·exact declare_cells _ _ _ _
     rw [stmtsC_cells bd _ hbd p3 (by omega) (by omega),hd]
     unfold cL cB
     omega
    ·rw [if_neg h7]
     obtain rfl:=p2 (by rcases hs with hk | hk | hk<;>omega)
     rw [typedC_cells xs s 1 hx h0 (by omega)]
     unfold cB
     omega
theorem stmtsC_cells:∀ (xs:List St) (s:CS),wB xs→pB xs→0≤s.cells→s.cells+sizeSs xs≤1000000→(stmtsC s xs).cells=s.cells+cB xs
 | [],s,_,_,_,_=>by unfold stmtsC cB;simp
 | x :: xs,s,hw,hp,h0,hb=>by
  unfold wB at hw
  unfold pB at hp
  unfold sizeSs at hb
  have h1:=stmtC_cells x (s.bump x.kind) hw.1 hp.1 h0 (by rw [bump_cells];omega)
  rw [bump_cells] at h1
  have h2:=cS_le x
  unfold stmtsC cB
  rw [stmtsC_cells xs _ hw.2 hp.2 (by omega) (by omega),h1]
  omega
end
mutual
theorem kS_le (j:Nat):∀ x:St,kS j x≤sizeS x
 | .mk k nm xs n bd els p=>by
  have:=kB_le j bd;have:=kB_le j els
  unfold kS sizeS
  split<;>omega
theorem kB_le (j:Nat):∀ xs:List St,kB j xs≤sizeSs xs
 | []=>by unfold kB;omega
 | x :: xs=>by have:=kS_le j x;have:=kB_le j xs;unfold kB sizeSs;omega
end
mutual
theorem stmtC_ki (j:Nat):∀ (x:St) (s:CS),wS x→pS x→0≤s.ki j→s.ki j+sizeS x≤1000000→(stmtC (s.bump x.kind) x).ki j=s.ki j+kS j x
 | .mk k nm xs n bd els p,s,hw,hp,h0,hb=>by
  unfold wS at hw
  unfold pS at hp
  obtain ⟨hs,hn,hx,hbd,he⟩:=hw
  obtain ⟨p1,p2,p3,p4⟩:=hp
  unfold sizeS at hb
  have q2:=kB_le j bd
  have hbump:(s.bump k).ki j=s.ki j+(if (j:Int)=k then 1 else 0:Nat):=by
   show (if (j:Int)=k then wrap64 (s.ki j+1) else s.ki j)=_
   split
   ·rw [wrap64_small (by omega) (by omega)];omega
   ·omega
  have hle:(if (j:Int)=k then 1 else 0:Nat)≤1:=by split<;>omega
  have hkind:(St.mk k nm xs n bd els p).kind=k:=rfl
  rw [hkind]
  unfold stmtC kS
  by_cases h1:k=1
  ·rw [if_pos h1]
   obtain rfl:=p1 (by omega)
   obtain rfl:=p2 (by omega)
   have:∀ s':CS,(match xs with | []=>s' | x :: _=>(exprC s' x).2.declare nm (exprC s' x).1 p).ki j=s'.ki j:=fun s'=>by
    cases xs with
    | nil=>rfl
    | cons x _=>show ((exprC s' x).2.declare nm (exprC s' x).1 p).ki j=_;rw [declare_ki,exprC_ki]
   refine (this _).trans ?_
   rw [hbump]
   unfold kB
   omega
  ·rw [if_neg h1]
   by_cases h6:k=6
   ·rw [if_pos h6]
    have t1:(typedC (s.bump k) 2 xs).ki=(s.bump k).ki:=typedC_ki _ _ _
    have t2:=stmtsC_ki j bd (typedC (s.bump k) 2 xs) hbd p3 (by rw [t1];omega) (by rw [t1];omega)
    rw [t1] at t2
    have t3:=stmtsC_ki j els ((stmtsC (typedC (s.bump k) 2 xs) bd).forget (typedC (s.bump k) 2 xs).decl.length) he p4 (by rw [forget_ki];omega) (by rw [forget_ki];omega)
    rw [forget_ki,t3,forget_ki]
    omega
   ·rw [if_neg h6]
    obtain rfl:=p1 h6
    by_cases h7:k=7∨k=8
    ·rw [if_pos h7,forget_ki]
     have hd:(if 64 < n then ((s.bump k).declare nm 1 p).fail 11 p else (s.bump k).declare nm 1 p).ki=(s.bump k).ki:=by
      split
      ·rw [fail_ki,declare_ki]
      ·exact declare_ki _ _ _ _
     rw [stmtsC_ki j bd _ hbd p3 (by rw [hd];omega) (by rw [hd];omega),hd,hbump]
     unfold kB
     omega
    ·rw [if_neg h7]
     obtain rfl:=p2 (by rcases hs with hk | hk | hk<;>omega)
     rw [typedC_ki,hbump]
     unfold kB
     omega
theorem stmtsC_ki (j:Nat):∀ (xs:List St) (s:CS),wB xs→pB xs→0≤s.ki j→s.ki j+sizeSs xs≤1000000→(stmtsC s xs).ki j=s.ki j+kB j xs
 | [],s,_,_,_,_=>by unfold stmtsC kB;simp
 | x :: xs,s,hw,hp,h0,hb=>by
  unfold wB at hw
  unfold pB at hp
  unfold sizeSs at hb
  have h1:=stmtC_ki j x s hw.1 hp.1 h0 (by omega)
  have h2:=kS_le j x
  unfold stmtsC kB
  rw [stmtsC_ki j xs _ hw.2 hp.2 (by omega) (by omega),h1]
  omega
end
end Go.Proofs.Ytiaeagpepfmfgaa
namespace Go.Proofs.Ytiaeagpepfmfgaa
open Go.RowKit Go.Maps
set_option linter.unusedSimpArgs false
set_option linter.unusedVariables false
theorem EsV.elem {w:World} {B:Nat→Prop} {a:Option Addr} {n cap j:Nat} {xs:List E} (h:EsV w B (.slice a n cap) xs) (hj:j < n) :
  n=xs.length∧∃ gr k nn nm ys p a' c',a=some ⟨gr,0,none⟩∧xs[j]?=some (.mk k nn nm ys p)∧w.cell? ⟨gr,j*5,none⟩=some (.int .i64 k)∧w.cell? ⟨gr,j*5+1,none⟩=some (.int .i64 nn)∧
   w.cell? ⟨gr,j*5+2,none⟩=some (.string (strOf nm))∧w.cell? ⟨gr,j*5+3,none⟩=some (.slice a' ys.length c')∧w.cell? ⟨gr,j*5+4,none⟩=some (.int .i64 p)∧EsV w B (.slice a' ys.length c') ys:=by
 obtain ⟨a0,cap0,hv,hc,hx⟩:=h
 cases hv
 obtain ⟨e,he⟩:∃ e,xs[j]?=some e:=⟨_,List.getElem?_eq_getElem hj⟩
 obtain ⟨gr,rfl,hgr,hes⟩:∃ gr,a=some ⟨gr,0,none⟩∧B gr∧EsAt w B gr 0 xs:=by
  rcases hx with hx | hx
  ·rw [hx] at he;simp at he
  ·exact hx
 obtain ⟨cs,hev,hcs⟩:=(EsAt.eso xs 0 0 rfl hes) j e he
 obtain ⟨k,nn,nm,ys,p⟩:=e
 unfold EV at hev
 obtain ⟨a',cap',rfl,hc',hx'⟩:=hev
 exact ⟨rfl,gr,k,nn,nm,ys,p,a',cap',rfl,he,by simpa using hcs 0 _ rfl,by simpa using hcs 1 _ rfl,by simpa using hcs 2 _ rfl,by simpa using hcs 3 _ rfl,by simpa using hcs 4 _ rfl,EsV.of_parts hc' hx'⟩
theorem SsV.elem {w:World} {B:Nat→Prop} {a:Option Addr} {n cap j:Nat} {xs:List St} (h:SsV w B (.slice a n cap) xs) (hj:j < n) :
  n=xs.length∧∃ gr k nm ys nn bd els p a0 c0 a1 c1 a2 c2,a=some ⟨gr,0,none⟩∧xs[j]?=some (.mk k nm ys nn bd els p)∧w.cell? ⟨gr,j*7,none⟩=some (.int .i64 k)∧w.cell? ⟨gr,j*7+1,none⟩=some (.string (strOf nm))∧
   w.cell? ⟨gr,j*7+2,none⟩=some (.slice a0 ys.length c0)∧w.cell? ⟨gr,j*7+3,none⟩=some (.int .i64 nn)∧w.cell? ⟨gr,j*7+4,none⟩=some (.slice a1 bd.length c1)∧w.cell? ⟨gr,j*7+5,none⟩=some (.slice a2 els.length c2)∧w.cell? ⟨gr,j*7+6,none⟩=some (.int .i64 p)∧
   EsV w B (.slice a0 ys.length c0) ys∧SsV w B (.slice a1 bd.length c1) bd∧SsV w B (.slice a2 els.length c2) els:=by
 obtain ⟨a0,cap0,hv,hc,hx⟩:=h
 cases hv
 obtain ⟨e,he⟩:∃ e,xs[j]?=some e:=⟨_,List.getElem?_eq_getElem hj⟩
 obtain ⟨gr,rfl,hgr,hes⟩:∃ gr,a=some ⟨gr,0,none⟩∧B gr∧SsAt w B gr 0 xs:=by
  rcases hx with hx | hx
  ·rw [hx] at he;simp at he
  ·exact hx
 obtain ⟨cs,hev,hcs⟩:=SsAt.get xs 0 hes j e he
 obtain ⟨k,nm,ys,nn,bd,els,p⟩:=e
 unfold SV at hev
 obtain ⟨va,a1,c1,a2,c2,rfl,⟨a0,c0,rfl,q1,q2⟩,⟨q3,q4⟩,⟨q5,q6⟩⟩:=hev
 exact ⟨rfl,gr,k,nm,ys,nn,bd,els,p,a0,c0,a1,c1,a2,c2,rfl,he,by simpa using hcs 0 _ rfl,by simpa using hcs 1 _ rfl,by simpa using hcs 2 _ rfl,by simpa using hcs 3 _ rfl,by simpa using hcs 4 _ rfl,by simpa using hcs 5 _ rfl,by simpa using hcs 6 _ rfl,⟨a0,c0,rfl,q1,q2⟩,⟨a1,c1,rfl,q3,q4⟩,⟨a2,c2,rfl,q5,q6⟩⟩
theorem cellL_drop {xs:List E} {j:Nat} {e:E} (hj:xs[j]?=some e):cellL (xs.drop j)=(cellE e || cellL (xs.drop (j+1))):=by
 obtain ⟨hlt,rfl⟩:=List.getElem?_eq_some_iff.1 hj
 rw [List.drop_eq_getElem_cons hlt]
 conv=>lhs;unfold cellL
theorem sizeL_len:∀ xs:List E,xs.length≤sizeL xs
 | []=>Nat.zero_le _
 | e :: es=>by
  have:=sizeL_len es
  have:1≤sizeE e:=by cases e;rw [sizeE_mk];omega
  rw [sizeL_cons,List.length_cons]
  omega
def CCellP (N:Nat):Prop:=∀ (xs:List E),sizeL xs≤N→∀ (w:World) (v:Value) (B:Nat→Prop),EsV w B v xs→Calls Try.prog 34 #[v] w fun en w'=>en=.returned (.bool (cellL xs))∧Only [] w w'
set_option maxRecDepth 100000 in
set_option maxHeartbeats 4000000 in
theorem ccell_step (N:Nat) (hNN:N≤1000000) (IS:∀ M,M < N→CCellP M):CCellP N:=by
 intro xs hN w v B hv
 obtain ⟨a,cap,rfl,-⟩:=id hv
 have hlen:=sizeL_len xs
 obtain ⟨n,hn⟩:∃ n,n=xs.length:=⟨_,rfl⟩
 rw [← hn] at hlen hv⊢
 have HV:=Lib.hid hv
 have HN:=Lib.hid hn
 have hnb:n≤1000000:=by omega
 obtain ⟨R,hR⟩:∃ R,R=cellL xs:=⟨_,rfl⟩
 rw [← hR]
 have HR:=Lib.hid hR
 clear hv hn hR
 go_enter Try.func34,Try.ntmps34
 go_wp2_with fail
 go_loopw [3] (fun ix wr=>∃ j:Nat,j≤n∧ix=.int .i64 (j:Int)∧Hid (R=cellL (xs.drop j))∧Hid (Only [] w wr)) (fun ix _=>n - (intOf ix).toNat)
 case atStart=>exact ⟨0,Nat.zero_le _,rfl,Lib.hid (by rw [HR.out,List.drop_zero]),Lib.hid (Only.refl _ _)⟩
 case round=>
  obtain ⟨j,hjn,rfl,HT,HO⟩:=hrel
  by_cases hlt:j < n
  ·have hlt':(j:Int) < (n:Int):=by omega
   have j0:(0:Int)≤(j:Int):=by omega
   obtain ⟨-,gr,k,nn,nm,ys,p,a',c',rfl,he,x0,x1,x2,x3,x4,hv'⟩:=(HV.out.quiet HO.out).elem hlt
   have hT1:=sizeL_mem he
   rw [sizeE_mk] at hT1
   have hT:=HT.out
   rw [cellL_drop he] at hT
   have hce:cellE (.mk k nn nm ys p)=(decide (k=3) || cellL ys):=by conv=>lhs;unfold cellE
   rw [hce] at hT
   obtain ⟨L,hL⟩:∃ L,L=ys.length:=⟨_,rfl⟩
   rw [← hL] at x3 hv'
   have K1:=IS _ (show sizeL ys < N by omega) ys (Nat.le_refl _) wr _ B hv'
   have HT2:=Lib.hid hT
   obtain ⟨b,hb⟩:∃ b,b=cellL ys:=⟨_,rfl⟩
   rw [← hb] at K1 HT2
   have HB:=Lib.hid hb
   clear he hT hce hL hv' hb hT1 hlen hN x1 x2 x4
   by_cases h3:k=3
   ·subst h3
    have hR2:R=true:=by have:=HT2.out;simpa using this
    have HR2:=Lib.hid hR2
    clear K1 hR2
    go_wp2_with fail
    go_ret
    exact ⟨by rw [HR2.out];rfl,HO.out⟩
   ·have h3':(k == 3)=false:=by simpa using h3
    have hR2:R=(b || cellL (xs.drop (j+1))):=by have:=HT2.out;simpa [h3] using this
    have HR2:=Lib.hid hR2
    clear hR2 h3
    go_wp2_with fail
    refine K1.mono ?_
    rintro en w6 ⟨rfl,ho6⟩
    have HO6:=Lib.hid (HO.out.trans ho6 (by simp))
    clear ho6 K1 x0 x3
    cases b
    ·go_wp2_with fail
     go_roundw
     case rel=>exact ⟨j+1,by omega,by go_num,Lib.hid (by rw [HR2.out];simp),HO6⟩
     case measure=>simp [intOf];omega
    ·go_wp2_with fail
     go_ret
     exact ⟨by rw [HR2.out];rfl,HO6.out⟩
  ·obtain rfl:j=n:=by omega
   have hT:R=false:=by rw [HT.out,HN.out,List.drop_length];unfold cellL;rfl
   have HTT:=Lib.hid hT
   clear hT
   go_wp2_with fail
   go_ret
   rw [HTT.out]
   exact ⟨rfl,HO.out⟩
theorem ccell_all (N:Nat) (hN:N≤1000000):CCellP N:=by
 induction N using Nat.strongRecOn with
 | _ N ih=>exact ccell_step N hN (fun M hM=>ih M hM (by omega))
theorem readB_drop {xs:List St} {j:Nat} {e:St} (hj:xs[j]?=some e):readB (xs.drop j)=(readS e || readB (xs.drop (j+1))):=by
 obtain ⟨hlt,rfl⟩:=List.getElem?_eq_some_iff.1 hj
 rw [List.drop_eq_getElem_cons hlt]
 conv=>lhs;unfold readB
theorem hasB_drop {a b:Int} {xs:List St} {j:Nat} {e:St} (hj:xs[j]?=some e):hasB a b (xs.drop j)=(hasS a b e || hasB a b (xs.drop (j+1))):=by
 obtain ⟨hlt,rfl⟩:=List.getElem?_eq_some_iff.1 hj
 rw [List.drop_eq_getElem_cons hlt]
 conv=>lhs;unfold hasB
def CReadP (N:Nat):Prop:=∀ (xs:List St),sizeSs xs≤N→∀ (w:World) (v:Value) (B:Nat→Prop),SsV w B v xs→Calls Try.prog 33 #[v] w fun en w'=>en=.returned (.bool (readB xs))∧Only [] w w'
set_option maxRecDepth 100000 in
set_option maxHeartbeats 4000000 in
theorem cread_step (N:Nat) (hNN:N≤1000000) (IS:∀ M,M < N→CReadP M):CReadP N:=by
 intro xs hN w v B hv
 obtain ⟨a,cap,rfl,-⟩:=id hv
 have hlen:=sizeSs_len xs
 obtain ⟨n,hn⟩:∃ n,n=xs.length:=⟨_,rfl⟩
 rw [← hn] at hlen hv⊢
 have HV:=Lib.hid hv
 have HN:=Lib.hid hn
 have hnb:n≤1000000:=by omega
 obtain ⟨R,hR⟩:∃ R,R=readB xs:=⟨_,rfl⟩
 rw [← hR]
 have HR:=Lib.hid hR
 clear hv hn hR
 go_enter Try.func33,Try.ntmps33
 go_wp2_with fail
 go_loopw [3] (fun ix wr=>∃ j:Nat,j≤n∧ix=.int .i64 (j:Int)∧Hid (R=readB (xs.drop j))∧Hid (Only [] w wr)) (fun ix _=>n - (intOf ix).toNat)
 case atStart=>exact ⟨0,Nat.zero_le _,rfl,Lib.hid (by rw [HR.out,List.drop_zero]),Lib.hid (Only.refl _ _)⟩
 case round=>
  obtain ⟨j,hjn,rfl,HT,HO⟩:=hrel
  by_cases hlt:j < n
  ·have hlt':(j:Int) < (n:Int):=by omega
   have j0:(0:Int)≤(j:Int):=by omega
   obtain ⟨-,gr,k,nm,ys,nn,bd,els,p,a0,c0,a1,c1,a2,c2,rfl,he,x0,x1,x2,x3,x4,x5,x6,hv0,hv1,hv2⟩:=(HV.out.quiet HO.out).elem hlt
   have hT1:=sizeSs_mem he
   rw [sizeS_mk] at hT1
   have hT:=HT.out
   rw [readB_drop he] at hT
   have hce:readS (.mk k nm ys nn bd els p)=(cellL ys || (readB bd || readB els)):=by conv=>lhs;unfold readS
   rw [hce] at hT
   have K1:=ccell_all 1000000 (Nat.le_refl _) ys (by omega) wr _ B hv0
   have I1:=IS _ (show sizeSs bd < N by omega) bd (Nat.le_refl _)
   have I2:=IS _ (show sizeSs els < N by omega) els (Nat.le_refl _)
   obtain ⟨L0,hL0⟩:∃ L,L=ys.length:=⟨_,rfl⟩
   obtain ⟨L1,hL1⟩:∃ L,L=bd.length:=⟨_,rfl⟩
   obtain ⟨L2,hL2⟩:∃ L,L=els.length:=⟨_,rfl⟩
   rw [← hL0] at x2 K1
   rw [← hL1] at x4 hv1
   rw [← hL2] at x5 hv2
   have HV1:=Lib.hid hv1
   have HV2:=Lib.hid hv2
   obtain ⟨b0,hb0⟩:∃ b,b=cellL ys:=⟨_,rfl⟩
   obtain ⟨b1,hb1⟩:∃ b,b=readB bd:=⟨_,rfl⟩
   obtain ⟨b2,hb2⟩:∃ b,b=readB els:=⟨_,rfl⟩
   rw [← hb0] at K1
   rw [← hb0,← hb1,← hb2] at hT
   have HB:=Lib.hid (And.intro hb1 hb2)
   have HT2:=Lib.hid hT
   have HI1:=Lib.hid I1
   have HI2:=Lib.hid I2
   clear he hT hce hL0 hL1 hL2 hv0 hv1 hv2 hb0 hb1 hb2 hT1 hlen hN x0 x1 x3 x6 I1 I2
   go_wp2_with fail
   refine K1.mono ?_
   rintro en w6 ⟨rfl,ho6⟩
   have HO6:=Lib.hid (HO.out.trans ho6 (by simp))
   cases b0
   ·have K2:=HI1.out w6 _ B (HV1.out.quiet ho6)
    have x4':=cell_kept ho6 x4 (by simp)
    have x5':=cell_kept ho6 x5 (by simp)
    replace HV2:=Lib.hid (HV2.out.quiet ho6)
    rw [← HB.out.1] at K2
    clear ho6 K1 x2 x4 x5
    go_wp2_with fail
    refine K2.mono ?_
    rintro en w7 ⟨rfl,ho7⟩
    have HO7:=Lib.hid (HO6.out.trans ho7 (by simp))
    cases b1
    ·have K3:=HI2.out w7 _ B (HV2.out.quiet ho7)
     have x5'':=cell_kept ho7 x5' (by simp)
     rw [← HB.out.2] at K3
     clear ho7 K2 x4' x5'
     go_wp2_with fail
     refine K3.mono ?_
     rintro en w8 ⟨rfl,ho8⟩
     have HO8:=Lib.hid (HO7.out.trans ho8 (by simp))
     clear ho8 K3 x5''
     cases b2
     ·go_wp2_with fail
      go_roundw
      case rel=>exact ⟨j+1,by omega,by go_num,Lib.hid (by rw [HT2.out];simp),HO8⟩
      case measure=>simp [intOf];omega
     ·go_wp2_with fail
      go_ret
      exact ⟨by rw [HT2.out];simp,HO8.out⟩
    ·clear ho7 K2 x4' x5'
     go_wp2_with fail
     go_ret
     exact ⟨by rw [HT2.out];simp,HO7.out⟩
   ·clear ho6 K1 x2 x4 x5
    go_wp2_with fail
    go_ret
    exact ⟨by rw [HT2.out];simp,HO6.out⟩
  ·obtain rfl:j=n:=by omega
   have hT:R=false:=by rw [HT.out,HN.out,List.drop_length];unfold readB;rfl
   have HTT:=Lib.hid hT
   clear hT
   go_wp2_with fail
   go_ret
   rw [HTT.out]
   exact ⟨rfl,HO.out⟩
theorem cread_all (N:Nat) (hN:N≤1000000):CReadP N:=by
 induction N using Nat.strongRecOn with
 | _ N ih=>exact cread_step N hN (fun M hM=>ih M hM (by omega))
def CHasP (x y:Int) (N:Nat):Prop:=∀ (xs:List St),sizeSs xs≤N→∀ (w:World) (v:Value) (B:Nat→Prop),SsV w B v xs→Calls Try.prog 32 #[v,.int .i64 x,.int .i64 y] w fun en w'=>en=.returned (.bool (hasB x y xs))∧Only [] w w'
set_option maxRecDepth 100000 in
set_option maxHeartbeats 4000000 in
theorem chas_step (x y:Int) (N:Nat) (hNN:N≤1000000) (IS:∀ M,M < N→CHasP x y M):CHasP x y N:=by
 intro xs hN w v B hv
 obtain ⟨a,cap,rfl,-⟩:=id hv
 have hlen:=sizeSs_len xs
 obtain ⟨n,hn⟩:∃ n,n=xs.length:=⟨_,rfl⟩
 rw [← hn] at hlen hv⊢
 have HV:=Lib.hid hv
 have HN:=Lib.hid hn
 have hnb:n≤1000000:=by omega
 obtain ⟨R,hR⟩:∃ R,R=hasB x y xs:=⟨_,rfl⟩
 rw [← hR]
 have HR:=Lib.hid hR
 clear hv hn hR
 go_enter Try.func32,Try.ntmps32
 go_wp2_with fail
 go_loopw [7] (fun ix wr=>∃ j:Nat,j≤n∧ix=.int .i64 (j:Int)∧Hid (R=hasB x y (xs.drop j))∧Hid (Only [] w wr)) (fun ix _=>n - (intOf ix).toNat)
 case atStart=>exact ⟨0,Nat.zero_le _,rfl,Lib.hid (by rw [HR.out,List.drop_zero]),Lib.hid (Only.refl _ _)⟩
 case round=>
  obtain ⟨j,hjn,rfl,HT,HO⟩:=hrel
  by_cases hlt:j < n
  ·have hlt':(j:Int) < (n:Int):=by omega
   have j0:(0:Int)≤(j:Int):=by omega
   obtain ⟨-,gr,k,nm,ys,nn,bd,els,p,a0,c0,a1,c1,a2,c2,rfl,he,x0,x1,x2,x3,x4,x5,x6,hv0,hv1,hv2⟩:=(HV.out.quiet HO.out).elem hlt
   have hT1:=sizeSs_mem he
   rw [sizeS_mk] at hT1
   have hT:=HT.out
   rw [hasB_drop he] at hT
   have hce:hasS x y (.mk k nm ys nn bd els p)=((decide (x≤k) && decide (k≤y)) || (hasB x y bd || hasB x y els)):=by conv=>lhs;unfold hasS
   rw [hce] at hT
   have I1:=IS _ (show sizeSs bd < N by omega) bd (Nat.le_refl _)
   have I2:=IS _ (show sizeSs els < N by omega) els (Nat.le_refl _)
   obtain ⟨L1,hL1⟩:∃ L,L=bd.length:=⟨_,rfl⟩
   obtain ⟨L2,hL2⟩:∃ L,L=els.length:=⟨_,rfl⟩
   rw [← hL1] at x4 hv1
   rw [← hL2] at x5 hv2
   have HV1:=Lib.hid hv1
   have HV2:=Lib.hid hv2
   obtain ⟨b1,hb1⟩:∃ b,b=hasB x y bd:=⟨_,rfl⟩
   obtain ⟨b2,hb2⟩:∃ b,b=hasB x y els:=⟨_,rfl⟩
   rw [← hb1,← hb2] at hT
   have HB:=Lib.hid (And.intro hb1 hb2)
   have HI1:=Lib.hid I1
   have HI2:=Lib.hid I2
   clear he hce hL1 hL2 hv0 hv1 hv2 hb1 hb2 hT1 hlen hN x1 x2 x3 x6 I1 I2
   by_cases g1:x≤k
   ·by_cases g2:k≤y
    ·have HT2:=Lib.hid hT
     have hR2:R=true:=by have:=HT2.out;simpa [g1,g2] using this
     have HR2:=Lib.hid hR2
     clear hR2 hT
     go_wp2_with fail
     go_ret
     exact ⟨by rw [HR2.out];rfl,HO.out⟩
    ·have hT':R=((b1 || b2) || hasB x y (xs.drop (j+1))):=by simpa [g1,g2] using hT
     have HT2:=Lib.hid hT'
     clear hT' hT
     have K2:=HI1.out wr _ B HV1.out
     rw [← HB.out.1] at K2
     go_wp2_with fail
     refine K2.mono ?_
     rintro en w7 ⟨rfl,ho7⟩
     have HO7:=Lib.hid (HO.out.trans ho7 (by simp))
     cases b1
     ·have K3:=HI2.out w7 _ B (HV2.out.quiet ho7)
      have x5'':=cell_kept ho7 x5 (by simp)
      rw [← HB.out.2] at K3
      clear ho7 K2 x4 x5
      go_wp2_with fail
      refine K3.mono ?_
      rintro en w8 ⟨rfl,ho8⟩
      have HO8:=Lib.hid (HO7.out.trans ho8 (by simp))
      clear ho8 K3 x5''
      cases b2
      ·go_wp2_with fail
       go_roundw
       case rel=>exact ⟨j+1,by omega,by go_num,Lib.hid (by rw [HT2.out];simp),HO8⟩
       case measure=>simp [intOf];omega
      ·go_wp2_with fail
       go_ret
       exact ⟨by rw [HT2.out];simp,HO8.out⟩
     ·clear ho7 K2 x4 x5
      go_wp2_with fail
      go_ret
      exact ⟨by rw [HT2.out];simp,HO7.out⟩
   ·have hT':R=((b1 || b2) || hasB x y (xs.drop (j+1))):=by simpa [g1] using hT
    have HT2:=Lib.hid hT'
    clear hT' hT
    have K2:=HI1.out wr _ B HV1.out
    rw [← HB.out.1] at K2
    go_wp2_with fail
    refine K2.mono ?_
    rintro en w7 ⟨rfl,ho7⟩
    have HO7:=Lib.hid (HO.out.trans ho7 (by simp))
    cases b1
    ·have K3:=HI2.out w7 _ B (HV2.out.quiet ho7)
     have x5'':=cell_kept ho7 x5 (by simp)
     rw [← HB.out.2] at K3
     clear ho7 K2 x4 x5
     go_wp2_with fail
     refine K3.mono ?_
     rintro en w8 ⟨rfl,ho8⟩
     have HO8:=Lib.hid (HO7.out.trans ho8 (by simp))
     clear ho8 K3 x5''
     cases b2
     ·go_wp2_with fail
      go_roundw
      case rel=>exact ⟨j+1,by omega,by go_num,Lib.hid (by rw [HT2.out];simp),HO8⟩
      case measure=>simp [intOf];omega
     ·go_wp2_with fail
      go_ret
      exact ⟨by rw [HT2.out];simp,HO8.out⟩
    ·clear ho7 K2 x4 x5
     go_wp2_with fail
     go_ret
     exact ⟨by rw [HT2.out];simp,HO7.out⟩
  ·obtain rfl:j=n:=by omega
   have hT:R=false:=by rw [HT.out,HN.out,List.drop_length];unfold hasB;rfl
   have HTT:=Lib.hid hT
   clear hT
   go_wp2_with fail
   go_ret
   rw [HTT.out]
   exact ⟨rfl,HO.out⟩
theorem chas_all (x y:Int) (N:Nat) (hN:N≤1000000):CHasP x y N:=by
 induction N using Nat.strongRecOn with
 | _ N ih=>exact chas_step x y N hN (fun M hM=>ih M hM (by omega))
end Go.Proofs.Ytiaeagpepfmfgaa
namespace Go.Proofs.Ytiaeagpepfmfgaa
open Go.RowKit Go.Maps
set_option linter.unusedSimpArgs false
set_option linter.unusedVariables false
def parD:RS→List Sec→RS
 | r,[]=>r
 | r,n :: ns=>parD (r.declare n 0) ns
def envP (l:List Sec):Env:=l.map fun n=>(n,1)
def needsD (want:Int) (env:Env):RS→List E→RS
 | r,[]=>r
 | r,e :: es=>needsD want env (needR r e want env) es
theorem par_agree:∀ (l:List Sec) (s:CS) (r:RS) (env:Env),Agree s r env→Agree (parC s l) (parD r l) (env++envP l)
 | [],s,r,env,h=>by
  show Agree s r (env++[])
  rw [List.append_nil]
  exact h
 | n :: ns,s,r,env,h=>by
  have h1:=(declare_agree (t:=1) (t':=1) h n 0 (fun _=>⟨rfl,.inl rfl⟩)).1
  have h2:=par_agree ns _ _ _ h1
  rw [List.append_assoc] at h2
  exact h2
theorem needs_agree {want:Int} {env:Env}:∀ (l:List E) (s:CS) (r:RS),wL l→Agree s r env→Agree (typedC s want l) (needsD want env r l) env
 | [],s,r,_,h=>by unfold typedC;exact h
 | e :: es,s,r,hw,h=>by
  unfold wL at hw
  unfold typedC
  exact needs_agree es _ _ hw.2 (agree_one (kind_agree e s r env hw.1 h))
def RS.new:RS:=⟨[],0,0⟩
theorem new_agree:Agree CS.new RS.new []:=⟨(fun x h=>by cases h),fun _=>⟨rfl,rfl,fun _=>rfl,(fun z t h=>by cases h),by decide⟩⟩
def refN (d:Df):RS:=needsD 2 (envP d.params) (parD RS.new d.params) d.needs
def refB (d:Df):RS×Env:=blockD (refN d) d.body (envP d.params)
def refG (d:Df):RS:=needsD 1 (refB d).2 (refB d).1 d.give
theorem refG_agree {d:Df} (hw:Whole d) (h8:d.params.length≤8):Agree (opG CS.new d) (refG d) (refB d).2:=by
 have h1:Agree (paramsC CS.new d.params) (parD RS.new d.params) (envP d.params):=by
  unfold paramsC
  rw [if_neg (by omega)]
  exact par_agree d.params _ _ _ new_agree
 have h2:Agree (opT CS.new d) (refN d) (envP d.params):=needs_agree d.needs _ _ hw.needs h1
 have h3:=(block_agree d.body _ _ _ hw.body h2).1
 exact needs_agree d.give _ _ hw.give h3
theorem many_params {d:Df} (h8:8 < d.params.length):(opG CS.new d).flt=some (15,0):=by
 have h1:(paramsC CS.new d.params).flt=some (15,0):=by
  unfold paramsC
  rw [if_pos h8]
  rfl
 exact typedC_keep _ _ _ _ (stmtsC_keep _ _ _ (typedC_keep _ _ _ _ h1))
theorem opG_few_params {d:Df} (h:(opG CS.new d).flt=none):d.params.length≤8:=by
 apply Classical.byContradiction
 intro hc
 rw [many_params (by omega)] at h
 cases h
theorem opS_none {d:Df} (h:(opS CS.new d).flt=none):(opG CS.new d).flt=none∧stD d≤2048∧opS CS.new d=opG CS.new d:=by
 unfold opS at h⊢
 cases hf:(opG CS.new d).flt with
 | some x=>rw [hf] at h;simp only [Option.isSome_some,if_true] at h;rw [hf] at h;cases h
 | none=>
  rw [hf] at h
  simp only [Option.isSome_none,Bool.false_eq_true,if_false] at h⊢
  by_cases h2:2048 < stD d
  ·rw [if_pos h2] at h
   exact absurd h (fail_flt _ _ _)
  ·rw [if_neg h2]
   exact ⟨by trivial,by omega,rfl⟩
theorem code_ne {d:Df} (hw:Whole d) {c p:Int} (h:(opS CS.new d).flt=some (c,p)):c≠0:=by
 unfold opS at h
 cases hf:(opG CS.new d).flt with
 | some x=>
  rw [hf] at h
  simp only [Option.isSome_some,if_true] at h
  by_cases h8:d.params.length≤8
  ·have:=(refG_agree hw h8).bad x hf
   rw [hf] at h
   cases h
   exact this.2.2
  ·rw [many_params (by omega)] at h
   cases h
   decide
 | none=>
  rw [hf] at h
  simp only [Option.isSome_none,Bool.false_eq_true,if_false] at h
  split at h
  ·unfold CS.fail at h
   rw [hf] at h
   cases h
   decide
  ·rw [hf] at h
   cases h
theorem parC_ki:∀ (l:List Sec) (s:CS),(parC s l).ki=s.ki∧(parC s l).cells=s.cells
 | [],s=>⟨rfl,rfl⟩
 | n :: ns,s=>by
  obtain ⟨h1,h2⟩:=parC_ki ns (s.declare n 1 0)
  show (parC (s.declare n 1 0) ns).ki=_∧_
  exact ⟨h1.trans (declare_ki _ _ _ _),h2.trans (declare_cells _ _ _ _)⟩
def modeF (d:Df):Int:=if hasB 2 5 d.body=false then 1 else if hasB 2 2 d.body=false∧hasB 5 5 d.body=false∧readB d.body=false∧cellL d.needs=false∧cellL d.give=false then 2 else 3
theorem info_of {d:Df} (hw:Whole d) (hp:pB d.body) (h:(opS CS.new d).flt=none) :
  opI CS.new d=⟨modeF d,stD d,(opG CS.new d).decl.length,!hasB 2 2 d.body && !readB d.body⟩∧stD d≤2048∧(opG CS.new d).decl.length≤16:=by
 obtain ⟨h1,h2,h3⟩:=opS_none h
 have h8:=opG_few_params h1
 have hag:=(refG_agree hw h8).good h1
 have hsz:=hw.size
 have hpk:(paramsC CS.new d.params).ki=(fun _=>0)∧(paramsC CS.new d.params).cells=0:=by
  unfold paramsC
  rw [if_neg (by omega)]
  exact parC_ki _ _
 have t1:(opT CS.new d).ki=fun _=>0:=by unfold opT;rw [typedC_ki,hpk.1]
 have t2:(opT CS.new d).cells=cL d.needs:=by
  unfold opT
  rw [typedC_cells _ _ _ hw.needs (by rw [hpk.2];omega) (by rw [hpk.2];omega),hpk.2]
  omega
 have c1:=cL_le d.needs
 have c2:=cB_le d.body
 have c3:=cL_le d.give
 have b1:∀ j,(opB CS.new d).ki j=kB j d.body:=fun j=>by
  unfold opB
  rw [stmtsC_ki j d.body _ hw.body hp (by rw [t1];exact Int.le_refl 0) (by rw [t1];show 0+(sizeSs d.body:Int)≤1000000;omega),t1]
  show 0+(kB j d.body:Int)=_
  omega
 have b2:(opB CS.new d).cells=cL d.needs+cB d.body:=by
  unfold opB
  rw [stmtsC_cells d.body _ hw.body hp (by rw [t2];omega) (by rw [t2];omega),t2]
 have g1:∀ j,(opG CS.new d).ki j=kB j d.body:=fun j=>by
  unfold opG
  rw [typedC_ki,b1]
 have g2:(opG CS.new d).cells=cL d.needs+cB d.body+cL d.give:=by
  unfold opG
  rw [typedC_cells _ _ _ hw.give (by rw [b2];omega) (by rw [b2];omega),b2]
 have k2:=kB_le 2 d.body
 have k3:=kB_le 3 d.body
 have k4:=kB_le 4 d.body
 have k5:=kB_le 5 d.body
 refine ⟨?_,h2,hag.2.2.2.2⟩
 unfold opI
 rw [h3]
 have o2:hasB 2 2 d.body=decide (0 < kB 2 d.body):=kB_one 2 d.body
 have o5:hasB 5 5 d.body=decide (0 < kB 5 d.body):=kB_one 5 d.body
 have hm:modeC (opG CS.new d)=modeF d:=by
  unfold modeC modeF
  rw [g1,g1,g1,g1,g2,kB_all,o2,o5,cB_pos,cL_pos,cL_pos]
  simp only [decide_eq_false_iff_not,Int.cast_ofNat_Int]
  rw [wrap64_small (n:=(kB 3 d.body:Int)+kB 4 d.body) (by omega) (by omega),wrap64_small (n:=(kB 2 d.body:Int)+kB 5 d.body) (by omega) (by omega),wrap64_small (by omega) (by omega)]
  repeat' split
  all_goals first | rfl | (exfalso;omega)
 have ht:((opG CS.new d).ki 2 == 0 && wrap64 ((opB CS.new d).cells - (opT CS.new d).cells) == 0)=(!hasB 2 2 d.body && !readB d.body):=by
  rw [g1,b2,t2,o2,cB_pos,wrap64_small (by omega) (by omega),Bool.eq_iff_iff]
  simp only [Bool.and_eq_true,beq_iff_eq,Bool.not_eq_true',decide_eq_false_iff_not]
  omega
 rw [hm,ht]
end Go.Proofs.Ytiaeagpepfmfgaa
