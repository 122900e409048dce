import Derived.Test.YtiaeagpepfmfgaaK2q
import Derived.Test.YtiaeagpepfmfgaaG5q
import Derived.Deep.Cut
namespace Go.Proofs.Ytiaeagpepfmfgaa
open Go.RowKit Go.Maps
set_option linter.unusedSimpArgs false
set_option linter.unusedVariables false
def opr (x:Sec):Int×Int:=
 if x=[43]∨x=[45]∨x=[42]∨x=[47]∨x=[37] then (1,1)
 else if x=[60]∨x=[60,61]∨x=[62]∨x=[62,61] then (1,2)
 else if x=[61,61]∨x=[33,61] then (0,2)
 else if x=[38,38]∨x=[124,124] then (2,2) else (0,0)
def E.kind:E→Int | .mk k _ _ _ _=>k
def E.pos:E→Int | .mk _ _ _ _ p=>p
def CS.look (s:CS) (nm:Sec) (p:Int):Int×CS:=
 if nm=[116,114,117,101]∨nm=[102,97,108,115,101] then (2,s)
 else match s.known nm with
  | some t=>(t,s)
  | none=>(0,s.fail 9 p)
mutual
def exprC:CS→E→Int×CS
 | s,.mk k _ nm xs p=>
  if k=2 then s.look nm p
  else if k=3 then (1,typedC {s with cells:=wrap64 (s.cells+1) } 1 xs)
  else if k=5 then (1,typedC s 1 xs)
  else if k=4 then (2,typedC s 2 xs)
  else if k=6 then (if (opr nm).1=0 then ((opr nm).2,alikeC s xs) else ((opr nm).2,typedC s (opr nm).1 xs))
  else (1,s)
def typedC:CS→Int→List E→CS
 | s,_,[]=>s
 | s,want,e :: es=>typedC (if (exprC s e).1=want then (exprC s e).2 else (exprC s e).2.fail 10 e.pos) want es
def alikeC:CS→List E→CS
 | s,[]=>s
 | s,e :: es=>typedC (exprC s e).2 (exprC s e).1 es
end
theorem opr_other {x:Sec} (h:x∉ops7):opr x=(0,0):=by
 unfold opr
 simp only [ops7,List.mem_cons,List.not_mem_nil,or_false,not_or] at h
 simp [h]
set_option maxHeartbeats 4000000 in
theorem coperator_any (s:ByteArray) (w:World) :
  Calls Try.prog 85 #[.string s] w fun e w'=>e=.returned (.tuple #[.int .i64 (opr s.data.toList).1,.int .i64 (opr s.data.toList).2])∧w=w':=by
 by_cases hm:s.data.toList∈ops7
 ·simp only [ops7,List.mem_cons,List.not_mem_nil,or_false] at hm
  rcases hm with h | h | h | h | h | h | h | h | h | h | h | h | h<;>
  ·obtain rfl:=str_eq_iff.2 h
   clear h
   go_enter Try.func85,Try.ntmps85
   go_wp2
   go_ret2
   exact ⟨rfl,rfl⟩
 ·rw [opr_other hm]
  have n1:=neq_op hm [124,124] (by decide)
  have n2:=neq_op hm [38,38] (by decide)
  have n3:=neq_op hm [60] (by decide)
  have n4:=neq_op hm [60,61] (by decide)
  have n5:=neq_op hm [62] (by decide)
  have n6:=neq_op hm [62,61] (by decide)
  have n7:=neq_op hm [61,61] (by decide)
  have n8:=neq_op hm [33,61] (by decide)
  have n9:=neq_op hm [43] (by decide)
  have n10:=neq_op hm [45] (by decide)
  have n11:=neq_op hm [42] (by decide)
  have n12:=neq_op hm [47] (by decide)
  have n13:=neq_op hm [37] (by decide)
  clear hm
  go_enter Try.func85,Try.ntmps85
  go_wp2
  go_ret2
  exact ⟨rfl,rfl⟩
theorem only_drewN' {S:List Nat} {a w:World} {n:Nat} (h:Only S a w):Only S a (w.drewN n):=⟨h.os,h.tape,h.output,h.size,h.block⟩
section
variable {w w':World} {g b1 b2:Nat} {s:CS}
set_option maxRecDepth 100000 in
set_option maxHeartbeats 4000000 in
theorem cname_any (h:CK w g b1 b2 s) (k n p:Int) (nm:Sec) (hnm:nm.length≤65536) (a:Option Addr) (l c:Nat) :
  Calls Try.prog 86 #[.pointer (some ⟨g,0,none⟩),.agg #[.int .i64 k,.int .i64 n,.string (strOf nm),.slice a l c,.int .i64 p]] w
   fun e w'=>e=.returned (.int .i64 (s.look nm p).1)∧CK w' g b1 b2 (s.look nm p).2∧Only [g] w w':=by
 obtain ⟨R,hR⟩:∃ R,R=s.look nm p:=⟨_,rfl⟩
 rw [← hR]
 obtain ⟨sn,hsn⟩:∃ sn,sn=strOf nm:=⟨_,rfl⟩
 rw [← hsn]
 have hd:sn.data.toList=nm:=by rw [hsn];simp [strOf]
 have H:=Lib.hid h
 have HR:=Lib.hid hR
 have HSN:=Lib.hid hsn
 clear h hR hsn
 by_cases ht:nm=[116,114,117,101]∨nm=[102,97,108,115,101]
 ·have hRR:R=(2,s):=by rw [HR.out];unfold CS.look;rw [if_pos ht]
  rw [hRR]
  clear hRR
  rcases ht with ht | ht<;>
  ·obtain rfl:=str_eq_iff.2 (hd.trans ht)
   clear hd ht
   go_enter Try.func86,Try.ntmps86
   go_wp2_with fail
   go_ret
   exact ⟨rfl,H.out.quiet ((Only.refl [] w).alloc _),(Only.refl [g] w).alloc _⟩
 ·have n1:(sn.toList == [116,114,117,101])=false:=str_neq (fun e=>ht (.inl (hd.symm.trans e)))
  have n2:(sn.toList == [102,97,108,115,101])=false:=str_neq (fun e=>ht (.inr (hd.symm.trans e)))
  have hRR:R=match s.known nm with | some t=>(t,s) | none=>(0,s.fail 9 p):=by rw [HR.out];unfold CS.look;rw [if_neg ht]
  have HRR:=Lib.hid hRR
  clear hRR hd ht
  go_enter Try.func86,Try.ntmps86
  go_upto_region 3 with (fail)
  have o1:=(Only.refl [] w).alloc (.cells #[.int .i64 k,.int .i64 n,.string sn,.slice a l c,.int .i64 p] 70)
  have hX:=heap_new w (.cells #[.int .i64 k,.int .i64 n,.string sn,.slice a l c,.int .i64 p] 70)
  have hK:=H.out.quiet o1
  generalize w.alloc (.cells #[.int .i64 k,.int .i64 n,.string sn,.slice a l c,.int .i64 p] 70)=w1 at o1 hX hK⊢
  obtain ⟨fv,h1,h2⟩:=hK.row
  obtain ⟨cn,hkn⟩:=hK.known
  have c0:w1.cell? ⟨g,0,none⟩=some (.map (some b1)):=cell_at 0 h1
  have x2:w1.cell? ⟨w.heap.size,2,none⟩=some (.string sn):=cell_at 2 hX
  have x4:w1.cell? ⟨w.heap.size,4,none⟩=some (.int .i64 p):=cell_at 4 hX
  have hl:∀ n,(Instr.lookup 109 (.map (some b1)) (.string sn) true).run Try.prog (w1.drewN n)=.ok (.tuple #[.int .i64 ((s.known nm).getD 0),.bool (s.known nm).isSome]) (w1.drewN n):=fun n=>by
   rw [HSN.out]
   exact (hkn.kept (only_drewN' (Only.refl [] w1)) (by simp)).look Try.underlying109 Try.underlying135 zero_kind hnm
  have HK:=Lib.hid hK
  have HO1:=Lib.hid o1
  clear h1 h2 hkn hX hK o1 n1 n2
  cases hm:s.known nm with
  | some t=>
   rw [hm] at hl HRR
   clear hm
   go_quiet (fail)
   go_wp2_with fail
   go_ret
   rw [show R=(t,s) from HRR.out]
   exact ⟨rfl,HK.out.quiet (only_drewN' (Only.refl [] w1)),(HO1.out.trans (only_drewN' (Only.refl [] w1)) (by simp)).mono (by simp)⟩
  | none=>
   rw [hm] at hl HRR
   clear hm
   go_quiet (fail)
   go_wp2_with fail
   have hk2:=HK.out.quiet (only_drewN' (n:=nq) (Only.refl [] w1))
   have ho2:=HO1.out.trans (only_drewN' (n:=nq) (Only.refl [] w1)) (by simp)
   refine (cfail_any hk2 9 p).mono ?_
   rintro e w5 ⟨rfl,hk5,ho5⟩
   have HK5:=Lib.hid (And.intro hk5 ((ho2.mono (T:=[g]) (by simp)).trans ho5 (fun k hk=>.inl hk)))
   clear hk5 ho5 hk2 ho2
   go_wp2_with fail
   go_ret
   rw [show R=(0,s.fail 9 p) from HRR.out]
   exact ⟨rfl,HK5.out.1,HK5.out.2⟩
end
end Go.Proofs.Ytiaeagpepfmfgaa
