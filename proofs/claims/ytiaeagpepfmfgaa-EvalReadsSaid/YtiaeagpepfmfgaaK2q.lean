import Derived.Test.YtiaeagpepfmfgaaK1q
import Derived.Test.YtiaeagpepfmfgaaC14q
import Derived.StillTailTactics
import Derived.Deep.Cut
namespace Go.Proofs.Ytiaeagpepfmfgaa
open Go.RowKit Go.Maps
set_option linter.unusedSimpArgs false
set_option linter.unusedVariables false
structure CS where
 decl:List Sec
 known:Sec→Option Int
 ki:Nat→Int
 cells:Int
 flt:Option (Int×Int)
def CS.fail (s:CS) (c p:Int):CS:=match s.flt with | none=>{s with flt:=some (c,p) } | some _=>s
def CS.declare (s:CS) (nm:Sec) (of at_:Int):CS:=if nm∈s.decl then s.fail 9 at_ else if s.decl.length=16 then s.fail 15 at_ else {s with decl:=s.decl++[nm],known:=nput s.known nm of }
def idx (l:List Sec):Sec→Option Int:=fun s=>if s∈l then some (l.idxOf s:Int) else none
theorem idx_some {l:List Sec} {s:Sec}:(idx l s).isSome=decide (s∈l):=by
 unfold idx
 by_cases h:s∈l<;>simp [h]
theorem idx_snoc {l:List Sec} {k:Sec} (h:k∉l):idx (l++[k])=nput (idx l) k (l.length:Int):=by
 funext s
 show (if s∈l++[k] then some ((l++[k]).idxOf s:Int) else none)=if s=k then some (l.length:Int) else if s∈l then some (l.idxOf s:Int) else none
 by_cases e:s=k
 ·subst e
  rw [if_pos (by simp),if_pos rfl,List.idxOf_append,if_neg h]
  simp
 ·rw [if_neg e]
  by_cases hm:s∈l
  ·rw [if_pos (by simp [hm]),if_pos hm,List.idxOf_append,if_pos hm]
  ·rw [if_neg (by simp [hm,e]),if_neg hm]
def CS.forget (s:CS) (k:Int):CS:={s with known:=fun z=>match idx s.decl z with | some c=>if k≤c then none else s.known z | none=>s.known z }
def forgot (d:List Sec) (known:Sec→Option Int) (k:Int) (left:Sec→Bool):Sec→Option Int:=fun z=>match idx d z with | some c=>if k≤c∧left z=false then none else known z | none=>known z
theorem forgot_all {d:List Sec} {known:Sec→Option Int} {k:Int} {left:Sec→Bool} (h:∀ z,left z=false):forgot d known k left=fun z=>match idx d z with | some c=>if k≤c then none else known z | none=>known z:=by
 funext z
 unfold forgot
 cases idx d z with
 | none=>rfl
 | some c=>simp [h]
theorem forgot_none {d:List Sec} {known:Sec→Option Int} {k:Int}:forgot d known k (fun z=>(idx d z).isSome)=known:=by
 funext z
 unfold forgot
 cases h:idx d z with
 | none=>rfl
 | some c=>simp [h]
theorem forgot_skip {d:List Sec} {known:Sec→Option Int} {k c:Int} {left:Sec→Bool} {x:Sec} (hx:idx d x=some c) (hc:¬ k≤c):forgot d known k (fun z=>left z && z != x)=forgot d known k left:=by
 funext z
 unfold forgot
 by_cases e:z=x
 ·subst e
  rw [hx]
  simp [hc]
 ·have:(left z && z != x)=left z:=by simp [e]
  simp only [this]
theorem forgot_del {d:List Sec} {known:Sec→Option Int} {k c:Int} {left:Sec→Bool} {x:Sec} (hx:idx d x=some c) (hc:k≤c):forgot d known k (fun z=>left z && z != x)=ndel (forgot d known k left) x:=by
 funext z
 unfold ndel
 by_cases e:z=x
 ·subst e
  rw [if_pos rfl]
  unfold forgot
  rw [hx]
  simp [hc]
 ·rw [if_neg e]
  unfold forgot
  have:(left z && z != x)=left z:=by simp [e]
  simp only [this]
def FltV (w:World) (f:Option (Int×Int)) (fv:Option Addr):Prop:=match f with
 | none=>fv=none
 | some (c,p)=>∃ b,fv=some ⟨b,0,none⟩∧w.heap[b]?=some (.cells #[.int .i64 c,.int .i64 p] 108 (0,0))
def ckCells (b1 b2:Nat) (s:CS) (fv:Option Addr):Array Value:=#[.map (some b1),.map (some b2),.int .i64 (s.ki 0),.int .i64 (s.ki 1),.int .i64 (s.ki 2),.int .i64 (s.ki 3),.int .i64 (s.ki 4),.int .i64 (s.ki 5),.int .i64 (s.ki 6),.int .i64 (s.ki 7),.int .i64 (s.ki 8),.int .i64 s.cells,.pointer fv]
structure CK (w:World) (g b1 b2:Nat) (s:CS):Prop where
 row:∃ fv,w.heap[g]?=some (.cells (ckCells b1 b2 s fv) 112 (0,0))∧FltV w s.flt fv
 known:∃ c,NMap w b1 135 s.decl.length c s.known
 decl:NMap w b2 3 s.decl.length s.decl.length (idx s.decl)
 len:s.decl.length≤16
 ne:b1≠b2
 names:∀ nm∈s.decl,nm.length≤65536
section
variable {w w':World} {g b1 b2:Nat} {s:CS}
theorem FltV.kept {S:List Nat} {f:Option (Int×Int)} {fv:Option Addr} (h:FltV w f fv) (ho:Only S w w') (hs:∀ k∈S,∀ o,w.heap[k]?=some o→∀ cs fr,o≠.cells cs 108 fr):FltV w' f fv:=by
 cases f with
 | none=>exact h
 | some x=>
  obtain ⟨c,p⟩:=x
  obtain ⟨b,rfl,hb⟩:=h
  exact ⟨b,rfl,ho.heap hb (fun hk=>hs b hk _ hb _ _ rfl)⟩
theorem CK.b1_lt (h:CK w g b1 b2 s):b1 < w.heap.size:=by obtain ⟨c,h⟩:=h.known;exact h.lt
theorem CK.b2_lt (h:CK w g b1 b2 s):b2 < w.heap.size:=h.decl.lt
theorem CK.g_lt (h:CK w g b1 b2 s):g < w.heap.size:=by obtain ⟨fv,h,_⟩:=h.row;exact lt_of_heap h
theorem CK.ne1 (h:CK w g b1 b2 s):b1≠g:=by obtain ⟨fv,h1,_⟩:=h.row;obtain ⟨c,h2⟩:=h.known;exact h2.ne h1
theorem CK.ne2 (h:CK w g b1 b2 s):b2≠g:=by obtain ⟨fv,h1,_⟩:=h.row;exact h.decl.ne h1
theorem CK.no_flt (h:CK w g b1 b2 s):∀ k∈[g,b1,b2],∀ o,w.heap[k]?=some o→∀ cs fr,o≠.cells cs 108 fr:=by
 intro k hk o ho cs fr e
 subst e
 obtain ⟨fv,h1,_⟩:=h.row
 obtain ⟨c,h2⟩:=h.known
 simp only [List.mem_cons,List.not_mem_nil,or_false] at hk
 rcases hk with rfl | rfl | rfl
 ·rw [h1] at ho
  injection ho with e
  injection e with _ e2 _
  exact absurd e2 (by decide)
 ·exact h2.ne ho rfl
 ·exact h.decl.ne ho rfl
theorem CK.quiet (h:CK w g b1 b2 s) (ho:Only [] w w'):CK w' g b1 b2 s:=by
 obtain ⟨fv,h1,h2⟩:=h.row
 obtain ⟨c,h3⟩:=h.known
 exact ⟨⟨fv,ho.heap h1 (by simp),h2.kept ho (by simp)⟩,⟨c,h3.kept ho (by simp)⟩,h.decl.kept ho (by simp),h.len,h.ne,h.names⟩
theorem CK.turn {s':CS} {fv:Option Addr} (h:CK w g b1 b2 s) (ho:Only [g] w w') (hr:w'.heap[g]?=some (.cells (ckCells b1 b2 s' fv) 112 (0,0))) (hf:FltV w' s'.flt fv) (hd:s'.decl=s.decl) (hk:s'.known=s.known):CK w' g b1 b2 s':=by
 obtain ⟨c,h3⟩:=h.known
 refine ⟨⟨fv,hr,hf⟩,⟨c,?_⟩,?_,by rw [hd];exact h.len,h.ne,by rw [hd];exact h.names⟩
 ·rw [hd,hk];exact h3.kept ho (by simpa using h.ne1)
 ·rw [hd];exact h.decl.kept ho (by simpa using h.ne2)
set_option maxRecDepth 100000 in
set_option maxHeartbeats 2000000 in
theorem cfail_any (h:CK w g b1 b2 s) (c p:Int):Calls Try.prog 68 #[.pointer (some ⟨g,0,none⟩),.int .i64 c,.int .i64 p] w fun e w'=>e=.returned (.tuple #[])∧CK w' g b1 b2 (s.fail c p)∧Only [g] w w':=by
 obtain ⟨fv,h1,h2⟩:=h.row
 have c12:w.cell? ⟨g,12,none⟩=some (.pointer fv):=cell_at 12 h1
 have H:=Lib.hid h
 have H1:=Lib.hid h1
 have H2:=Lib.hid h2
 have hg:=h.g_lt
 cases hf:s.flt with
 | some x=>
  obtain ⟨c0,p0⟩:=x
  rw [hf] at h2
  obtain ⟨b,rfl,hb⟩:=h2
  have hs:s.fail c p=s:=by unfold CS.fail;rw [hf]
  clear h h1 hb
  go_enter Try.func68,Try.ntmps68
  go_wp2_with fail
  go_end0
  exact ⟨rfl,by rw [hs];exact H.out,Only.refl _ _⟩
 | none=>
  rw [hf] at h2
  obtain rfl:fv=none:=h2
  have g12:=free_at 12 h1
  have hne:g≠w.heap.size:=by omega
  have hs:s.fail c p={s with flt:=some (c,p) }:=by unfold CS.fail;rw [hf]
  clear h h1
  go_enter Try.func68,Try.ntmps68
  go_wp2_with fail
  go_end0
  have ho:Only [g] w ((w.setCell ⟨g,12,none⟩ (.pointer (some ⟨w.heap.size,0,none⟩))).alloc (.cells #[.int .i64 c,.int .i64 p] 108)):=((Only.refl [g] w).setCell (.inl (by simp)) _).alloc _
  refine ⟨rfl,H.out.turn ho (fv:=some ⟨w.heap.size,0,none⟩) ?_ ?_ (by rw [hs]) (by rw [hs]),ho⟩
  ·rw [hs]
   exact heap_old _ (heap_cell (i:=12) (.pointer (some ⟨w.heap.size,0,none⟩)) H1.out)
  ·rw [hs]
   refine ⟨w.heap.size,rfl,?_⟩
   have:=heap_new (w.setCell ⟨g,12,none⟩ (.pointer (some ⟨w.heap.size,0,none⟩))) (.cells #[.int .i64 c,.int .i64 p] 108)
   rw [show (w.setCell ⟨g,12,none⟩ (.pointer (some ⟨w.heap.size,0,none⟩))).heap.size=w.heap.size by simp] at this
   exact this
theorem zero_int (w:World):(zeroValue 3).run Try.prog w=.ok (.int .i64 0) w:=by kernel_rfl
theorem zero_kind (w:World):(zeroValue 135).run Try.prog w=.ok (.int .i64 0) w:=by kernel_rfl
set_option maxRecDepth 100000 in
set_option maxHeartbeats 4000000 in
theorem cdeclare_any (h:CK w g b1 b2 s) (nm:Sec) (hnm:nm.length≤65536) (of p:Int) (hof:(Lit.int .i64 of).wf=true) :
    Calls Try.prog 80 #[.pointer (some ⟨g,0,none⟩),.string (strOf nm),.int .i64 of,.int .i64 p] w fun e w'=>e=.returned (.tuple #[])∧CK w' g b1 b2 (s.declare nm of p)∧Only [g,b1,b2] w w':=by
  obtain ⟨fv,h1,h2⟩:=h.row
  have c0:w.cell? ⟨g,0,none⟩=some (.map (some b1)):=cell_at 0 h1
  have c1:w.cell? ⟨g,1,none⟩=some (.map (some b2)):=cell_at 1 h1
  have hl:=h.decl.look Try.underlying66 Try.underlying3 zero_int hnm
  rw [idx_some] at hl
  have hlen:=fun ty=>h.decl.len Try.underlying66 ty
  have H:=Lib.hid h
  have H1:=Lib.hid h1
  have H2:=Lib.hid h2
  obtain ⟨sn,hsn⟩:∃ sn,sn=strOf nm:=⟨_,rfl⟩
  rw [← hsn] at hl⊢
  have HSN:=Lib.hid hsn
  generalize (idx s.decl nm).getD 0=d0 at hl
  by_cases hm:nm∈s.decl
  · have hs:s.declare nm of p=s.fail 9 p:=by unfold CS.declare;rw [if_pos hm]
    rw [decide_eq_true hm] at hl
    rw [hs]
    clear h h1 h2 hsn hm hs
    go_enter Try.func80,Try.ntmps80
    go_wp2_with fail
    refine (cfail_any H.out 9 p).mono ?_
    rintro e w' ⟨rfl,hk,ho⟩
    have HK:=Lib.hid (And.intro hk ho)
    clear hk ho
    go_wp2_with fail
    (try simp only [Exit.inBlock,Exit.then])
    refine bodyPost_ret (results_none rfl _ _ _) rfl ?_
    exact ⟨rfl,HK.out.1,HK.out.2.mono (by simp)⟩
  · rw [decide_eq_false hm] at hl
    by_cases h16:s.decl.length=16
    · have hs:s.declare nm of p=s.fail 15 p:=by unfold CS.declare;rw [if_neg hm,if_pos h16]
      rw [hs]
      rw [h16] at hlen
      clear h h1 h2 hsn hm hs h16
      go_enter Try.func80,Try.ntmps80
      go_wp2_with fail
      refine (cfail_any H.out 15 p).mono ?_
      rintro e w' ⟨rfl,hk,ho⟩
      have HK:=Lib.hid (And.intro hk ho)
      clear hk ho
      go_wp2_with fail
      (try simp only [Exit.inBlock,Exit.then])
      refine bodyPost_ret (results_none rfl _ _ _) rfl ?_
      exact ⟨rfl,HK.out.1,HK.out.2.mono (by simp)⟩
    · have hs:s.declare nm of p={s with decl:=s.decl++[nm],known:=nput s.known nm of }:=by unfold CS.declare;rw [if_neg hm,if_neg h16]
      have hle:=h.len
      obtain ⟨L,hL⟩:∃ L,L=s.decl.length:=⟨_,rfl⟩
      rw [← hL] at hlen hle
      have h16':((L:Int) == 16)=false:=by simp;omega
      have h16'':¬ (L:Int)=16:=by omega
      have HM:=Lib.hid hm
      have H16:=Lib.hid h16
      have HLL:=Lib.hid hL
      have HS:=Lib.hid hs
      clear h h1 h2 hsn hm hs h16 hL
      go_enter Try.func80,Try.ntmps80
      go_upto_region 5 with (fail)
      clear hl h16' h16''
      have hlen2:∀ ty,(Builtin.len_ #[66] ty #[.map (some b2)]).run Try.prog w.drew=.ok (.int .i64 (L:Int)) w.drew:=fun ty=>by
        have:=(H.out.decl.kept (w':=w.drew) ((Only.refl [] w).drew) (by simp)).len Try.underlying66 ty
        rw [← HLL.out] at this
        exact this
      clear hlen
      go_still_tail 10,(by kernel_rfl)
      change wpList _ _ _ _ _ w.drew
      have o1:Only [] w w.drew:=(Only.refl [] w).drew
      have c0':w.drew.cell? ⟨g,0,none⟩=some (.map (some b1)):=cell_at 0 (o1.heap H1.out (by simp))
      have HD:=Lib.hid (H.out.decl.kept o1 (by simp))
      obtain ⟨cn,hkn⟩:=H.out.known
      have HKn:=Lib.hid (hkn.kept o1 (by simp))
      have HO:=Lib.hid o1
      clear c0 c1 hlen2 o1 hkn
      generalize w.drew=w2 at c0' HD HKn HO⊢
      go_wp2_with (first
        | (refine wpList_nmap_store rfl (.tmp 35) (.tmp 36) (.tmp 41) rfl Try.underlying66 Try.underlying3 (by rfl) HD.out (by have:=H.out.len;omega) nm (by rw [← HSN.out];rfl) hnm (L:Int) (by rfl) (WalkArith.wf_i64 (by omega)) ?_
           intro w3 hd3 o3
           have c0'':w3.cell? ⟨g,0,none⟩=some (.map (some b1)):=cell_kept o3 c0' (by simpa using H.out.ne2.symm)
           have HD3:=Lib.hid hd3
           have HO3:=Lib.hid o3
           have HK3:=Lib.hid (HKn.out.kept o3 (by simpa using H.out.ne))
           clear hd3 o3 c0')
        | (refine wpList_nmap_store rfl (.tmp 45) (.tmp 46) (.tmp 47) rfl Try.underlying109 Try.underlying135 (by rfl) HK3.out (by have:=H.out.len;omega) nm (by rw [← HSN.out];rfl) hnm of (by rfl) hof ?_
           intro w4 hd4 o4
           have HD4:=Lib.hid hd4
           have HO4:=Lib.hid o4
           clear hd4 o4))
      go_end0
      have q2:Only [b2] w w3:=(HO.out.mono (by simp)).trans HO3.out (fun k hk=>.inl hk)
      have q3:Only [b1,b2] w w4:=(q2.mono (T:=[b1,b2]) (by simp)).trans HO4.out (fun k hk=>.inl (by simp only [List.mem_singleton] at hk;simp [hk]))
      obtain ⟨fv,h1,h2⟩:=H.out.row
      rw [HS.out]
      refine ⟨rfl,⟨⟨fv,q3.heap h1 ?_,h2.kept q3 ?_⟩,⟨(if (s.known nm).isSome=true then cn else cn+1),?_⟩,?_,?_,H.out.ne,?_⟩,q3.mono (by simp)⟩
      · simp only [List.mem_cons,List.not_mem_nil,or_false,not_or]
        exact ⟨H.out.ne1.symm,H.out.ne2.symm⟩
      · exact fun k hk=>H.out.no_flt k (List.mem_cons_of_mem _ hk)
      · show NMap w4 b1 135 (s.decl++[nm]).length (if (s.known nm).isSome=true then cn else cn+1) (nput s.known nm of)
        rw [show (s.decl++[nm]).length=s.decl.length+1 by simp]
        exact HD4.out
      · show NMap w4 b2 3 (s.decl++[nm]).length (s.decl++[nm]).length (idx (s.decl++[nm]))
        have h9:=HD3.out
        rw [show (s.decl++[nm]).length=s.decl.length+1 by simp,idx_snoc HM.out]
        rw [idx_some,decide_eq_false HM.out,HLL.out] at h9
        exact h9.kept HO4.out (by simpa using H.out.ne.symm)
      · show (s.decl++[nm]).length≤16
        have:=H.out.len
        have:=H16.out
        simp
        omega
      · intro z hz
        rcases List.mem_append.1 hz with hz | hz
        · exact H.out.names z hz
        · rw [List.mem_singleton.1 hz];exact hnm
set_option maxRecDepth 100000 in
set_option maxHeartbeats 4000000 in
theorem cforget_any (h:CK w g b1 b2 s) (k:Int):Calls Try.prog 91 #[.pointer (some ⟨g,0,none⟩),.int .i64 k] w fun e w'=>e=.returned (.tuple #[])∧CK w' g b1 b2 (s.forget k)∧Only [g,b1,b2] w w':=by
  obtain ⟨fv,h1,h2⟩:=h.row
  have c1:w.cell? ⟨g,1,none⟩=some (.map (some b2)):=cell_at 1 h1
  have H:=Lib.hid h
  have H1:=Lib.hid h1
  have H2:=Lib.hid h2
  clear h h1 h2
  go_enter Try.func91,Try.ntmps91
  go_wp2_with (refine wpList_nmap_range rfl (.tmp 9) rfl Try.underlying66 (by rfl) H.out.decl ?_;intro w5 r cnt hr hrl o5)
  go_frame
  obtain ⟨wo,hwo⟩:∃ wo:World,wo=w:=⟨_,rfl⟩
  have HR:=Lib.hid (And.intro hr (And.intro hrl o5))
  clear hr hrl o5
  obtain ⟨cn,hkn⟩:=H.out.known
  have HKn:=Lib.hid hkn
  clear hkn c1
  go_loopw [4,5] (fun _ _ wr=>∃ (left:Sec→Bool) (cnt1 c1:Nat),Hid (NRange wr b2 r 3 (idx s.decl) left cnt1)∧Hid (NMap wr b1 135 s.decl.length c1 (forgot s.decl s.known k left))∧Hid (Only [b1] w wr)∧Hid (wr.cell? ⟨g,0,none⟩=some (.map (some b1)))) (fun _ _ wr=>wr.rangeLeft b2 r)
  case atStart=>
    refine ⟨_,cnt,cn,Lib.hid HR.out.1,Lib.hid ?_,Lib.hid (HR.out.2.2.mono (by simp)),Lib.hid (cell_at 0 (HR.out.2.2.heap H1.out (by simp)))⟩
    rw [forgot_none]
    exact HKn.out.kept HR.out.2.2 (by simp)
  case round=>
    obtain ⟨left,cnt1,c1,HG,HM,HO,HC⟩:=hrel
    have hrb1:b1≠r:=fun e=>by
      obtain ⟨es,clock,hb⟩:=HM.out.obj
      obtain ⟨m',s',x',c',hi⟩:=HG.out.iter
      rw [e,hi] at hb
      cases hb
    have HRG:=Lib.hid (show r≠g from fun e=>by have:=HR.out.2.1;have:=H.out.g_lt;omega)
    have HRL:=Lib.hid (show ¬ r < w.heap.size from fun e=>by have:=HR.out.2.1;omega)
    go_wp2_with (first
      | (refine wpList_nmap_next rfl (.tmp 10) rfl Try.underlying3 (by rfl) HG.out (fun hc0 hl0=>?_) (fun x c w6 cnt2 hlx hmx hr6 hlt6 o6 hen=>?_)
         rotate_left
         have c06:w6.cell? ⟨g,0,none⟩=some (.map (some b1)):=cell_kept o6 HC.out (by simp only [List.mem_singleton];exact fun e=>HRG.out e.symm)
         have HM6:=Lib.hid (HM.out.kept o6 (by simpa using hrb1))
         have hxl:x.length≤65536:=H.out.names x (by have:=idx_some (l:=s.decl) (s:=x);rw [hmx] at this;simpa using this.symm)
         have HX:=Lib.hid (And.intro hlx (And.intro hmx (And.intro hr6 (And.intro hlt6 o6))))
         clear hlx hmx hr6 hlt6 o6
         by_cases hkc:k≤c
         rotate_left 2)
      | (refine wpList_nmap_delete rfl (.tmp 22) (.tmp 23) rfl Try.underlying109 (by rfl) HM6.out x (by rfl) hxl ?_;intro w7 cnt7 hd7 o7))
    · have hl:=Lib.hid hl0
      clear hc0 hl0
      go_end0
      have q:=HO.out
      refine ⟨rfl,⟨?_,?_,?_,H.out.len,H.out.ne,H.out.names⟩,q.mono (by simp)⟩
      · obtain ⟨fv,h1,h2⟩:=H.out.row
        exact ⟨fv,q.heap h1 (by simpa using H.out.ne1.symm),h2.kept q (fun k hk=>H.out.no_flt k (by simp only [List.mem_singleton] at hk;simp [hk]))⟩
      · refine ⟨c1,?_⟩
        have:=HM.out
        rw [forgot_all hl.out] at this
        exact this
      · exact H.out.decl.kept q (by simpa using H.out.ne.symm)
    · have HD7:=Lib.hid (And.intro hd7 o7)
      clear hd7 o7 c06 hen
      go_roundw
      case rel=>
        refine ⟨_,_,_,_,_,_,_,_,_,_,_,_,_,_,_,⟨_,cnt2,cnt7,Lib.hid (HX.out.2.2.1.kept HD7.out.2 (by simpa using H.out.ne.symm) (by simpa using hrb1.symm)),Lib.hid ?_,Lib.hid ?_,Lib.hid ?_⟩,rfl⟩
        · rw [forgot_del HX.out.2.1 hkc]
          exact HD7.out.1
        · exact (HO.out.trans HX.out.2.2.2.2 (fun k hk=>.inr (by rw [List.mem_singleton.1 hk];have:=HRL.out;omega))).trans HD7.out.2 (fun k hk=>.inl hk)
        · exact cell_kept HD7.out.2 (cell_kept HX.out.2.2.2.2 HC.out (by simp only [List.mem_singleton];exact fun e=>HRG.out e.symm)) (by simpa using H.out.ne1.symm)
      case measure=>
        have h1:=(HX.out.2.2.1.kept HD7.out.2 (by simpa using H.out.ne.symm) (by simpa using hrb1.symm)).left_eq
        have h2:=HG.out.left_eq
        have h3:=HX.out.2.2.2.1
        omega
    · clear c06 hen
      go_roundw
      case rel=>
        refine ⟨_,cnt2,c1,Lib.hid HX.out.2.2.1,Lib.hid ?_,Lib.hid ?_,Lib.hid ?_⟩
        · rw [forgot_skip HX.out.2.1 hkc]
          exact HM6.out
        · exact HO.out.trans HX.out.2.2.2.2 (fun k hk=>.inr (by rw [List.mem_singleton.1 hk];have:=HRL.out;omega))
        · exact cell_kept HX.out.2.2.2.2 HC.out (by simp only [List.mem_singleton];exact fun e=>HRG.out e.symm)
      case measure=>
        have h1:=HX.out.2.2.1.left_eq
        have h2:=HG.out.left_eq
        have h3:=HX.out.2.2.2.1
        omega
end
end Go.Proofs.Ytiaeagpepfmfgaa
