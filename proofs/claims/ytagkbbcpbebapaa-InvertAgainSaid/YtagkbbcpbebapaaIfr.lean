import Derived.Test.YtagkbbcpbebapaaZfr
import Derived.Test.YtagkbbcpbebapaaWar
import Derived.Test.YtagkbbcpbebapaaZgr
import Derived.Test.YtagkbbcpbebapaaQar
import Derived.ChangeMaps5
import Derived.Test.YtagkbbcpbebapaaIbr
import Derived.Test.YtagkbbcpbebapaaZer
import Derived.Test.YtagkbbcpbebapaaIcr
namespace Go.Proofs.Ytagkbbcpbebapaa
open Go.ChangeShapes Go.WideShapes Go.ChangeAt Go.RowKit Go.Deep Go.Maps
set_option linter.unusedSimpArgs false
set_option linter.unusedVariables false
section
variable {H:Type} {enc:TypeId×Value→H} {W:World} {base:Nat} {sp:Nat→Bool} {held:Bool}
theorem open_str {fuel:Nat} {u:Value} {x:DataW H×List MemPlace} (h:DataW.trod enc Try.prog W base sp held fuel 9 [u]=some x):∃ s:ByteArray,u=.string s∧s.size≤maxLen:=by
 obtain ⟨s,h1,_,h3⟩:=DataW.trod_string Try.underlying9 h
 exact ⟨s,by simpa using h1,h3⟩
set_option maxRecDepth 100000 in
theorem open_case9 {r:Reach} {b0:Nat} {v:Value} {d:DataW H} {p:List MemPlace} (hv:Value.okWide Try.prog W r b0 41 v) (h:DataW.Trod enc Try.prog W base sp held 41 v d p) :
  ∃ (s:ByteArray) (bv:Value) (l:List Int) (cv:Value) (m:List Int),v=.agg #[.string s,bv,cv]∧s.size≤maxLen∧IntsV W bv l∧Fit bv∧l.length≤maxLen∧IntsV W cv m∧Fit cv∧m.length≤maxLen:=by
 obtain ⟨v0,v1,v2,y0,y1,y2,n,rfl,_,_,h0,h1,h2⟩:=Go.Joins.open_agg3 Try.underlying41 (by kernel_rfl) (by kernel_rfl) hv h
 obtain ⟨s,rfl,hs⟩:=open_str (u:=v0) (x:=y0) h0
 obtain ⟨l,hb,hf,hl⟩:=open_nums (v:=v1) (x:=y1) h1
 obtain ⟨m,hc,hg,hm⟩:=open_nums (v:=v2) (x:=y2) h2
 exact ⟨s,v1,l,v2,m,rfl,hs,hb,hf,hl,hc,hg,hm⟩
end
theorem neq_err (n:Int) (w:World):(binOp .neq 31 (err n) .nilIface).run Try.prog w=.ok (.bool true) w:=by kernel_rfl
theorem errV_ne {k:Int} (h:k≠0):errV k=err k:=by unfold errV;rw [if_neg h]
end Go.Proofs.Ytagkbbcpbebapaa
namespace Go.Proofs.Ytagkbbcpbebapaa
open Go.RowKit Go.Maps
set_option linter.unusedSimpArgs false
set_option linter.unusedVariables false
def ranC (d:Df) (c av:List Int):List Int:=(pgB d.body ⟨c,mP d.params av⟩).c
theorem ranC_dc {d:Df} (hw:Whole d) (h:(opS CS.new d).flt=none) (c av:List Int):ranC d c av=(dcB d.body (c,d.params.zip av)).1:=by
 have hc:=clean_of hw h
 exact (block_same d.body (refN d) (envP d.params) ⟨c,mP d.params av⟩ (d.params.zip av) hw.body hc.code hc.knowN (fun z _=>rfl)).cells
theorem ranC_undone {d:Df} (hw:Whole d) (h:Turns d) {c:List Int} (hc:CW c) (av:List Int):ranC (turnD d) (ranC d c av) av=c:=by
 have hd:=clean_of hw h.1
 rw [ranC_dc (turn_whole hw) (turn_clean hw h.1),ranC_dc hw h.1]
 have:=undoB d.body (refN d) (envP d.params) c (d.params.zip av) hw.body hd.code hd.knowN h.2.1 h.2.2 hc
 show (dcB (tuB d.body) ((dcB d.body (c,d.params.zip av)).1,d.params.zip av)).1=c
 rw [this]
theorem ranC_w {d:Df} (hw:Whole d) (h:Turns d) {c:List Int} (hc:CW c) (av:List Int):CW (ranC d c av):=by
 rw [ranC_dc hw h.1]
 exact dcB_w d.body c _ hw.body h.2.1 hc
theorem ranC_twice {d:Df} (hw:Whole d) (h:Turns d) {c:List Int} (hc:CW c) (av:List Int):ranC (turnD (turnD d)) c av=ranC d c av:=by
 have h1:=ranC_undone hw h hc av
 have h2:=ranC_undone (turn_whole hw) (turn_turns hw h) (ranC_w hw h hc av) av
 rw [h1] at h2
 exact h2
theorem runP_bare {d:Df} (h:(opS CS.new d).flt=none) (h1:d.needs=[]) (h2:d.give=[]) (n:Int) (c av:List Int) (hl:av.length=d.params.length):runP d n c av=((n,ranC d c av),0,0):=by
 unfold runP
 have h0:¬ (none:Option (Int×Int)).isSome=true:=by decide
 rw [h,if_neg h0,if_neg (by omega),h1,h2]
 have e:∀ (c:List Int) (m:Nms),exVs c m []=[]:=fun c m=>by unfold exVs;rfl
 rw [e,e]
 rfl
theorem runP_good {d:Df} {n:Int} {c av:List Int} (h:(runP d n c av).2.2=0):(opS CS.new d).flt=none∧av.length=d.params.length∧(runP d n c av).1=(n,ranC d c av):=by
 unfold runP at h⊢
 by_cases h1:(opS CS.new d).flt.isSome=true
 ·rw [if_pos h1] at h
  cases h
 ·rw [if_neg h1] at h⊢
  by_cases h2:av.length≠d.params.length
  ·rw [if_pos h2] at h
   cases h
  ·rw [if_neg h2] at h⊢
   by_cases h3:(exVs c (mP d.params av) d.needs).any (fun v=>v == 0)=true
   ·rw [if_pos h3] at h
    cases h
   ·rw [if_neg h3]
    exact ⟨by simpa using h1,by omega,rfl⟩
theorem run_undone {d:Df} (hw:Whole d) (h:Turns d) {n:Int} {c av:List Int} (hc:CW c) (h0:(runP d n c av).2.2=0) :
  runP (turnD d) (runP d n c av).1.1 (runP d n c av).1.2 av=((n,c),0,0):=by
 obtain ⟨-,hl,e⟩:=runP_good h0
 rw [e]
 have:=runP_bare (d:=turnD d) (turn_clean hw h.1) rfl rfl n (ranC d c av) av hl
 rw [ranC_undone hw h hc] at this
 exact this
end Go.Proofs.Ytagkbbcpbebapaa
namespace Go.Proofs.Ytagkbbcpbebapaa
open Go.RowKit Go.Maps
set_option linter.unusedSimpArgs false
set_option linter.unusedVariables false
theorem run_turns {d:Df} {n:Int} {c av:List Int}:(∃ k,k≠0∧runP d n c av=((0,blankP),0,k))∨(∃ g,runP d n c av=((n,ranC d c av),g,0)):=by
 unfold runP
 by_cases h1:(opS CS.new d).flt.isSome=true
 ·rw [if_pos h1]
  exact .inl ⟨_,by decide,rfl⟩
 ·rw [if_neg h1]
  by_cases h2:av.length≠d.params.length
  ·rw [if_pos h2]
   exact .inl ⟨_,by decide,rfl⟩
  ·rw [if_neg h2]
   by_cases h3:(exVs c (mP d.params av) d.needs).any (fun v=>v == 0)=true
   ·rw [if_pos h3]
    exact .inl ⟨_,by decide,rfl⟩
   ·rw [if_neg h3]
    exact .inr ⟨_,rfl⟩
theorem run_back {d:Df} (hw:Whole d) (h:Turns d) {n:Int} {c av:List Int} (hc:CW c) {g:Int} (h0:runP d n c av=((n,ranC d c av),g,0)):runP (turnD d) n (ranC d c av) av=((n,c),0,0):=by
 have:=run_undone hw h (n:=n) (c:=c) (av:=av) hc (by rw [h0])
 rw [h0] at this
 exact this
theorem eq_pages (c:List Int):(decide ((5:Int)=5) && decide (c=c))=true:=by simp
end Go.Proofs.Ytagkbbcpbebapaa
