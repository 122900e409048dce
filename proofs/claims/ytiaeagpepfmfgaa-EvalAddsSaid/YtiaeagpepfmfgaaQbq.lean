import Derived.Test.YtiaeagpepfmfgaaKcq
import Derived.BigQuiet
import Derived.WalkMore
import Derived.Deep.LoopGhost
namespace Go.Proofs.Ytiaeagpepfmfgaa
open Go.RowKit Go.Maps
set_option linter.unusedSimpArgs false
set_option linter.unusedVariables false
structure RK (w:World) (lo g:Nat) (v:Value) (r:RS):Prop where
 row:w.heap[g]?=some (.cells #[v,.int .i64 r.code,.int .i64 r.at_] 81 (0,0))
 own:ONm w (g+1) v r.decl
 lo_le:lo≤g
 len:r.decl.length≤16
structure RT (w w':World) (g:Nat) (v v':Value):Prop where
 only:Only (g :: v.ownBlock.toList) w w'
 src:∀ k,v'.ownBlock=some k→v.ownBlock=some k∨w.heap.size≤k
section
variable {w w' w2:World} {lo g:Nat} {v v' v2:Value} {r r':RS}
theorem RK.g_lt (h:RK w lo g v r):g < w.heap.size:=lt_of_heap h.row
theorem RK.own_lo (h:RK w lo g v r) {k:Nat} (hk:v.ownBlock=some k):g+1≤k∧k < w.heap.size:=h.own.lt hk
theorem RK.quiet (h:RK w lo g v r) (ho:Only [] w w'):RK w' lo g v r:=⟨ho.heap h.row (by simp),h.own.keep ho (by simp),h.lo_le,h.len⟩
theorem RT.refl (w:World) (g:Nat) (v:Value):RT w w g v v:=⟨Only.refl _ _,fun k hk=>.inl hk⟩
theorem RT.of_quiet (ho:Only [] w w') (g:Nat) (v:Value):RT w w' g v v:=⟨ho.mono (by simp),fun k hk=>.inl hk⟩
theorem RT.trans (h1:RT w w' g v v') (h2:RT w' w2 g v' v2):RT w w2 g v v2:=by
 refine ⟨h1.only.trans h2.only (fun k hk=>?_),fun k hk=>?_⟩
 ·rcases List.mem_cons.1 hk with rfl | hk
  ·exact .inl (by simp)
  ·rcases h1.src k (by simpa using hk) with e | e
   ·exact .inl (by simp [e])
   ·exact .inr e
 ·rcases h2.src k hk with e | e
  ·exact h1.src k e
  ·exact .inr (Nat.le_trans h1.only.size e)
theorem RT.quiet (h1:RT w w' g v v') (ho:Only [] w' w2):RT w w2 g v v':=h1.trans (RT.of_quiet ho g v')
theorem RT.heap (h:RT w w' g v v') (hr:RK w lo g v r) {k:Nat} {cs:Array Value} {t:TypeId} {fr:Nat×Nat} (hk:w.heap[k]?=some (.cells cs t fr)) (h1:t≠81) (h2:t≠9):w'.heap[k]?=some (.cells cs t fr):=by
 refine h.only.heap hk (fun e=>?_)
 rcases List.mem_cons.1 e with rfl | e
 ·rw [hr.row] at hk
  injection hk with hk
  injection hk with _ e2 _
  exact h1 e2.symm
 ·rcases hr.own.2 with ⟨rfl,_⟩ | ⟨b,cap,cur,rfl,hb,hg,_⟩
  ·simp [Value.ownBlock] at e
  ·have e:k=b:=by simpa [Value.ownBlock] using e
   subst e
   rw [hg] at hk
   injection hk with hk
   injection hk with _ e2 _
   exact h2 e2.symm
theorem RK.below (hr:RK w lo g v r):∀ k∈g :: v.ownBlock.toList,¬ k < lo:=fun k hk=>by
 rcases List.mem_cons.1 hk with rfl | hk
 ·have:=hr.lo_le;omega
 ·have:=(hr.own_lo (k:=k) (by simpa using hk)).1
  have:=hr.lo_le
  omega
theorem run_append_nm2 {w:World} (base:Nat) (ty:TypeId) (v:Value) (l:List Sec) (hown:ONm w base v l) (bx capx:Nat) (s:Sec) (h0:w.cell? ⟨bx,0,none⟩=some (.string (strOf s))) (hn:l.length≤1048576) (hb:base≤w.heap.size) :
  ∃ a cap w',(Builtin.append_ #[26,26] ty #[v,.slice (some ⟨bx,0,none⟩) 1 capx]).run Try.prog w=.ok (.slice a (l.length+1) cap) w'∧ONm w' base (.slice a (l.length+1) cap) (l++[s])∧Ext w v w' (.slice a (l.length+1) cap):=by
 obtain ⟨i,hi,hz⟩:=Option.map_eq_some_iff.1 info_str
 simp only [Prod.mk.injEq] at hz
 obtain ⟨z1,z2,z3⟩:=hz
 have hcell:∀ (j:Nat) (u:Value),([.string (strOf s)]:List Value)[j]?=some u→w.cell? ((⟨bx,0,none⟩:Addr).add j)=some u:=fun j u hj=>by
  match j with
  | 0=>
   simp at hj
   subst hj
   have:(⟨bx,0,none⟩:Addr).add 0=⟨bx,0,none⟩:=by simp [Addr.add]
   rw [this]
   exact h0
  | j+1=>simp at hj
 obtain ⟨v',w',hr,k1,k2,_,k5⟩:=run_append_own_at (P:=Try.prog) w base 26 ty 9 i (.string ⟨#[]⟩) 1 16 Try.underlying26 hi z1 z2 z3 rfl (by omega) v l.length (nmv l) hown ⟨bx,0,none⟩ 1 capx [.string (strOf s)] rfl hcell (by simp [Value.oneCell']) (by unfold maxLen;omega) (by omega) hb
 have hsh:∃ a cap,v'=.slice a (l.length+1) cap:=by
  rcases k1.2 with ⟨_,hn⟩ | ⟨g,cap,cur,rfl,_⟩
  ·omega
  ·exact ⟨_,_,rfl⟩
 obtain ⟨a,cap,rfl⟩:=hsh
 refine ⟨a,cap,w',hr,?_,Only.of_grown k2,fun g hg=>?_⟩
 ·unfold ONm nmv
  rw [List.map_append,List.length_append]
  exact k1
 ·rcases k5 with k5 | k5
  ·exact .inl (by rw [← k5];exact hg)
  ·rw [k5] at hg
   exact .inr (Nat.le_of_eq (Option.some.inj hg))
theorem wpList_append_nm2 {w:World} {ops:Array Oper} {rest:List Oper} {o:Oper} {a:Act} {Q:Exit→Act→World→Prop} (hg:o.guard=none) (s x:Operand) (hop:o.op=Op.call {callee:=Callee.builtin Builtin.append,args:=#[s,x],argTypes:=#[26,26] })
  (base:Nat) (v:Value) (l:List Sec) (hs:a.eval s=v) (hown:ONm w base v l) (bx capx:Nat) (hx:a.eval x=.slice (some ⟨bx,0,none⟩) 1 capx) (y:Sec) (h0:w.cell? ⟨bx,0,none⟩=some (.string (strOf y))) (hn:l.length≤1048576) (hb:base≤w.heap.size)
  (hK:∀ a' cap w',ONm w' base (.slice a' (l.length+1) cap) (l++[y])→Ext w v w' (.slice a' (l.length+1) cap)→wpList Try.prog ops Q rest (a.put o.dst (.slice a' (l.length+1) cap)) w') :
  wpList Try.prog ops Q (o :: rest) a w:=by
 refine wpList_plain hg fun K' hK'=>?_
 obtain ⟨a',cap,w',hrun,k1,k2⟩:=run_append_nm2 base o.type v l hown bx capx y h0 hn hb
 unfold Oper.wp
 simp [execOp,hop,resolve,invoke,builtin,hs,hx,hrun,Result.andThen]
 exact hK' _ _ (hK _ _ w' k1 k2)
set_option maxRecDepth 100000 in
set_option maxHeartbeats 4000000 in
theorem rfail_any (h:RK w lo g v r) (c p:Int):Calls Try.prog 31 #[.pointer (some ⟨g,0,none⟩),.int .i64 c,.int .i64 p] w fun e w'=>e=.returned (.tuple #[])∧RK w' lo g v (r.fail c p)∧RT w w' g v v:=by
 have c1:w.cell? ⟨g,1,none⟩=some (.int .i64 r.code):=cell_at 1 h.row
 have c2:w.cell? ⟨g,2,none⟩=some (.int .i64 r.at_):=cell_at 2 h.row
 have g1:=free_at 1 h.row
 have g2:=free_at 2 h.row
 have H:=Lib.hid h
 obtain ⟨x,hx⟩:∃ x,x=r.code:=⟨_,rfl⟩
 rw [← hx] at c1
 by_cases hc:x=0
 ·have hr:r.fail c p={r with code:=c,at_:=p }:=by unfold RS.fail;rw [if_pos (by rw [← hx];exact hc)]
  subst hc
  rw [hr]
  clear h hr
  go_enter Try.func31,Try.ntmps31
  go_wp2_with fail
  go_end0
  have ho:Only [g] w ((w.setCell ⟨g,1,none⟩ (.int .i64 c)).setCell ⟨g,2,none⟩ (.int .i64 p)):=((Only.refl [g] w).setCell (.inl (by simp)) _).setCell (.inl (by simp)) _
  refine ⟨rfl,⟨heap_cell (i:=2) (.int .i64 p) (heap_cell (i:=1) (.int .i64 c) H.out.row),?_,H.out.lo_le,H.out.len⟩,⟨ho.mono (by simp),fun k hk=>.inl hk⟩⟩
  exact H.out.own.keep ho (by simp)
 ·have hr:r.fail c p=r:=by unfold RS.fail;rw [if_neg (by rw [← hx];exact hc)]
  have hc':(x == 0)=false:=by simpa using hc
  rw [hr]
  clear h hr hc
  go_enter Try.func31,Try.ntmps31
  go_wp2_with fail
  go_end0
  exact ⟨rfl,H.out,RT.refl _ _ _⟩
theorem strs_eq {x y:Sec} {X Y:ByteArray} (hX:X=strOf x) (hY:Y=strOf y):(X.toList == Y.toList)=decide (x=y):=by
 subst hX
 subst hY
 rw [ByteArray.toList_eq,ByteArray.toList_eq]
 simp only [strOf]
 rw [Bool.eq_iff_iff]
 simp
theorem nm_at {v:Value} {l:List Sec} {B:Nat→Prop} {a:Option Addr} {n c j:Nat} (h:NmV w B (.slice a n c) l) (hj:j < n):∃ b x,a=some ⟨b,0,none⟩∧l[j]?=some x∧w.cell? ⟨b,j,none⟩=some (.string (strOf x)):=by
 obtain ⟨a',cap,e,h1,h2⟩:=h
 injection e with e1 e2 e3
 subst e1
 obtain ⟨x,hx⟩:∃ x,l[j]?=some x:=⟨_,List.getElem?_eq_getElem (by omega)⟩
 rcases h2 with h2 | ⟨b,h3,_,h5⟩
 ·rw [h2] at hx;simp at hx
 ·exact ⟨b,x,h3,hx,h5 j x hx⟩
set_option maxRecDepth 100000 in
set_option maxHeartbeats 4000000 in
theorem rdeclare_any (h:RK w lo g v r) (nm:Sec) (p:Int) :
  Calls Try.prog 26 #[.pointer (some ⟨g,0,none⟩),.string (strOf nm),.int .i64 p] w fun e w'=>e=.returned (.tuple #[])∧∃ v',RK w' lo g v' (r.declare nm p)∧RT w w' g v v':=by
 obtain ⟨N,hN⟩:∃ N,N=strOf nm:=⟨_,rfl⟩
 rw [← hN]
 obtain ⟨a,cap,rfl⟩:=h.own.shape
 obtain ⟨n,hn⟩:∃ n,n=r.decl.length:=⟨_,rfl⟩
 have hlen:=h.len
 rw [← hn] at h hlen⊢
 have H:=Lib.hid h
 have HN:=Lib.hid hN
 have HL:=Lib.hid hn
 clear hN hn h
 go_enter Try.func26,Try.ntmps26
 go_wp2_with fail
 go_loopw [6] (fun ix wr=>∃ j:Nat,j≤n∧ix=.int .i64 (j:Int)∧Hid (nm∉r.decl.take j)∧Hid (Only [] w wr)) (fun ix _=>n - (intOf ix).toNat)
 case atStart=>exact ⟨0,Nat.zero_le _,rfl,Lib.hid (by simp),Lib.hid (Only.refl _ _)⟩
 case round=>
  obtain ⟨j,hjn,rfl,HT,HO⟩:=hrel
  have hk:=H.out.quiet HO.out
  have c0:wr.cell? ⟨g,0,none⟩=some (.slice a n cap):=cell_at 0 hk.row
  by_cases hlt:j < n
  ·have hlt':(j:Int) < (n:Int):=by omega
   have j0:(0:Int)≤(j:Int):=by omega
   obtain ⟨b,x,rfl,hx,cx⟩:=nm_at (v:=.slice a n cap) hk.own.nmv hlt
   obtain ⟨X,hX⟩:∃ X,X=strOf x:=⟨_,rfl⟩
   rw [← hX] at cx
   have heq:=strs_eq hX HN.out
   have htk:r.decl.take (j+1)=r.decl.take j++[x]:=by rw [List.take_add_one,hx];rfl
   by_cases hxe:x=nm
   ·have heq':(X.toList == N.toList)=true:=by rw [heq];simpa using hxe
    have hmem:nm∈r.decl:=by rw [← hxe];exact List.mem_of_getElem? hx
    have hr:r.declare nm p=r.fail 9 p:=by unfold RS.declare;rw [if_pos hmem]
    have HR:=Lib.hid hr
    have HK:=Lib.hid hk
    clear heq hxe hmem hr hk htk hX hx
    go_wp2_with fail
    refine (rfail_any HK.out 9 p).mono ?_
    rintro e w5 ⟨rfl,hk5,ht5⟩
    have HK5:=Lib.hid (And.intro hk5 ((RT.of_quiet HO.out g (.slice (some ⟨b,0,none⟩) n cap)).trans ht5))
    clear hk5 ht5
    go_wp2_with fail
    (try simp only [Exit.inBlock,Exit.then])
    refine bodyPost_ret (results_none rfl _ _ _) rfl ?_
    rw [HR.out]
    exact ⟨rfl,_,HK5.out.1,HK5.out.2⟩
   ·have heq':(X.toList == N.toList)=false:=by rw [heq];simpa using hxe
    have HT2:=Lib.hid (show nm∉r.decl.take (j+1) by
     rw [htk]
     intro hm
     rcases List.mem_append.1 hm with hm | hm
     ·exact HT.out hm
     ·exact hxe (List.mem_singleton.1 hm).symm)
    clear heq hxe hk htk hX hx
    go_wp2_with fail
    go_roundw
    case rel=>exact ⟨j+1,by omega,by go_num,HT2,HO⟩
    case measure=>simp [intOf];omega
  ·obtain rfl:j=n:=by omega
   have hnot:nm∉r.decl:=by have:=HT.out;rwa [HL.out,List.take_length] at this
   have HK:=Lib.hid hk
   clear hk
   by_cases h16:16≤j
   ·have h16':(16:Int)≤(j:Int):=by omega
    have hr:r.declare nm p=r.fail 15 p:=by unfold RS.declare;rw [if_neg hnot,if_pos (by rw [← HL.out];exact h16)]
    have HR:=Lib.hid hr
    clear hr hnot
    go_wp2_with fail
    refine (rfail_any HK.out 15 p).mono ?_
    rintro e w5 ⟨rfl,hk5,ht5⟩
    have HK5:=Lib.hid (And.intro hk5 ((RT.of_quiet HO.out g (.slice a j cap)).trans ht5))
    clear hk5 ht5
    go_wp2_with fail
    (try simp only [Exit.inBlock,Exit.then])
    refine bodyPost_ret (results_none rfl _ _ _) rfl ?_
    rw [HR.out]
    exact ⟨rfl,_,HK5.out.1,HK5.out.2⟩
   ·have h16':¬ (16:Int)≤(j:Int):=by omega
    have hr:r.declare nm p={r with decl:=r.decl++[nm] }:=by unfold RS.declare;rw [if_neg hnot,if_neg (by rw [← HL.out];exact h16)]
    have HR:=Lib.hid hr
    clear hr hnot
    go_upto_region 7 with (fail)
    have c0:wr.cell? ⟨g,0,none⟩=some (.slice a j cap):=cell_at 0 HK.out.row
    have f0:=free_at 0 HK.out.row
    have hgr:=HK.out.g_lt
    go_wp2_with (refine wpList_append_nm2 rfl (.tmp 41) (.tmp 43) rfl (g+1) (.slice a j cap) r.decl (by rfl) (HK.out.own.keep ((Only.refl [] wr).alloc (.cells #[.string N] 9)) (by simp)) wr.heap.size 1 (by rfl) nm (by rw [← HN.out];exact cell_at 0 (heap_new wr (.cells #[.string N] 9))) (by rw [← HL.out];omega) (by rw [show (wr.alloc (.cells #[.string N] 9)).heap.size=wr.heap.size+1 from Array.size_push _];omega) ?_;intro a' cap' w7 h7 x7;have hr7:w7.heap[g]?=some (.cells #[.slice a j cap,.int .i64 r.code,.int .i64 r.at_] 81 (0,0)):=x7.only.heap (heap_old _ HK.out.row) (by intro e;have:=(HK.out.own_lo (k:=g) (by simpa using e)).1;omega);have c7:w7.cell? ⟨g,0,none⟩=some (.slice a j cap):=cell_at 0 hr7;have f7:=free_at 0 hr7;have H7:=Lib.hid (And.intro hr7 (And.intro h7 x7));clear hr7 h7 x7)
    go_end0
    obtain ⟨hr7,h7,x7⟩:=H7.out
    have hl7:(r.decl++[nm]).length=r.decl.length+1:=by simp
    have o7:Only (g :: (Value.slice a j cap).ownBlock.toList) w (w7.setCell ⟨g,0,none⟩ (.slice a' (r.decl.length+1) cap')):=
     (((HO.out.mono (T:=g :: (Value.slice a j cap).ownBlock.toList) (by simp)).alloc _).trans (x7.only.mono (T:=g :: (Value.slice a j cap).ownBlock.toList) (fun k hk=>List.mem_cons_of_mem _ hk)) (fun k hk=>.inl hk)).setCell (.inl (by simp)) _
    have o78:Only [g] w7 (w7.setCell ⟨g,0,none⟩ (.slice a' (r.decl.length+1) cap')):=(Only.refl [g] w7).setCell (.inl (by simp)) _
    refine ⟨rfl,.slice a' (r.decl.length+1) cap',?_,o7,fun k hk=>?_⟩
    ·rw [HR.out]
     exact ⟨heap_cell (i:=0) _ hr7,h7.keep o78 (by simp),HK.out.lo_le,by show (r.decl++[nm]).length≤16;rw [hl7,← HL.out];omega⟩
    ·rcases x7.src k hk with e | e
     ·exact .inl e
     ·exact .inr (Nat.le_trans (Nat.le_trans HO.out.size (Nat.le_succ _)) (by rw [show (wr.alloc (.cells #[.string N] 9)).heap.size=wr.heap.size+1 from Array.size_push _] at e;exact e))
end
end Go.Proofs.Ytiaeagpepfmfgaa
namespace Go.Proofs.Ytiaeagpepfmfgaa
open Go.RowKit Go.Maps
set_option linter.unusedSimpArgs false
set_option linter.unusedVariables false
def kcs (l:List (Sec×Int)):List Value:=(l.map fun x=>[Value.string (strOf x.1),Value.int .i64 x.2]).flatten
theorem kcs_length:∀ l:List (Sec×Int),(kcs l).length=2*l.length
 | []=>rfl
 | p :: l=>by
  have:=kcs_length l
  simp only [kcs,List.map_cons,List.flatten_cons,List.length_append,List.length_cons,List.length_nil] at this⊢
  omega
theorem kcs_snoc (l:List (Sec×Int)) (x:Sec×Int):kcs (l++[x])=kcs l++[.string (strOf x.1),.int .i64 x.2]:=by simp [kcs]
theorem kcs_get0:∀ (l:List (Sec×Int)) (i:Nat) (x:Sec×Int),l[i]?=some x→(kcs l)[i*2]?=some (.string (strOf x.1))
 | [],i,p,h=>by simp at h
 | q :: l,0,p,h=>by
  simp at h
  subst h
  rfl
 | q :: l,i+1,p,h=>by
  have:=kcs_get0 l i p (by simpa using h)
  have e:(i+1)*2=i*2+1+1:=by omega
  rw [e]
  exact this
theorem kcs_get1:∀ (l:List (Sec×Int)) (i:Nat) (x:Sec×Int),l[i]?=some x→(kcs l)[i*2+1]?=some (.int .i64 x.2)
 | [],i,p,h=>by simp at h
 | q :: l,0,p,h=>by
  simp at h
  subst h
  rfl
 | q :: l,i+1,p,h=>by
  have:=kcs_get1 l i p (by simpa using h)
  have e:(i+1)*2+1=(i*2+1)+1+1:=by omega
  rw [e]
  exact this
def OKn (w:World) (v:Value) (l:List (Sec×Int)):Prop:=w.ownsRow 0 85 2 v l.length (kcs l)
section
variable {w w':World} {v:Value} {l:List (Sec×Int)}
theorem OKn.nil (w:World):OKn w (.slice none 0 0) []:=World.ownsRow_nil w 0 _ 2
theorem OKn.kept {S:List Nat} (h:OKn w v l) (ho:Only S w w') (hs:∀ k∈S,v.ownBlock≠some k):OKn w' v l:=by
 refine ⟨h.1,?_⟩
 rcases h.2 with hn | ⟨g,cap,cur,rfl,hb,hg,r⟩
 ·exact .inl hn
 ·exact .inr ⟨g,cap,cur,rfl,hb,ho.heap hg (fun e=>hs g e rfl),r⟩
theorem OKn.shape (h:OKn w v l):∃ a cap,v=.slice a l.length cap:=by
 rcases h.2 with ⟨rfl,hn⟩ | ⟨g,cap,cur,rfl,hb,hg,r⟩
 ·exact ⟨none,0,by rw [hn]⟩
 ·exact ⟨_,_,rfl⟩
theorem OKn.ty {k:Nat} {t:TypeId} {c:Array Value} {fr:Nat×Nat} (h:OKn w v l) (hk:v.ownBlock=some k) (hg:w.heap[k]?=some (.cells c t fr)):t=85:=by
 rcases h.2 with ⟨rfl,_⟩ | ⟨g,cap,cur,rfl,hb,hg',r⟩
 ·cases hk
 ·obtain rfl:g=k:=by simpa [Value.ownBlock] using hk
  rw [hg'] at hg
  simp only [Option.some.injEq,Obj.cells.injEq] at hg
  exact hg.2.1.symm
theorem OKn.at_ (h:OKn w v l) {i:Nat} {x:Sec×Int} (hi:l[i]?=some x):∃ g cap,v=.slice (some ⟨g,0,none⟩) l.length cap∧w.cell? ⟨g,i*2,none⟩=some (.string (strOf x.1))∧w.cell? ⟨g,i*2+1,none⟩=some (.int .i64 x.2):=by
 have hlt:i < l.length:=(List.getElem?_eq_some_iff.1 hi).1
 rcases h.2 with ⟨rfl,hn⟩ | ⟨g,cap,cur,rfl,hb,hg,hc,_,hz,ht⟩
 ·omega
 ·refine ⟨g,cap,rfl,?_,?_⟩
  ·rw [cell_at _ hg]
   have h1:=kcs_get0 l i x hi
   rw [← ht,List.getElem?_take_of_lt (by omega)] at h1
   simpa using h1
  ·rw [cell_at _ hg]
   have h1:=kcs_get1 l i x hi
   rw [← ht,List.getElem?_take_of_lt (by omega)] at h1
   simpa using h1
end
theorem info_kn:(Try.prog.info? 85).map (fun i=>(i.zero,i.size,i.bytes))=some (some (.agg #[.string ⟨#[]⟩,.int .i64 0]),2,24):=by kernel_rfl
theorem run_append_kn {w:World} (ty:TypeId) (v:Value) (l:List (Sec×Int)) (hown:OKn w v l) (bx capx:Nat) (x:Sec×Int) (h0:w.cell? ⟨bx,0,none⟩=some (.string (strOf x.1))) (h1:w.cell? ⟨bx,1,none⟩=some (.int .i64 x.2)) (hn:l.length≤1048576) :
  ∃ a cap w',(Builtin.append_ #[82,82] ty #[v,.slice (some ⟨bx,0,none⟩) 1 capx]).run Try.prog w=.ok (.slice a (l.length+1) cap) w'∧OKn w' (.slice a (l.length+1) cap) (l++[x])∧Ext w v w' (.slice a (l.length+1) cap):=by
 obtain ⟨i,hi,hz⟩:=Option.map_eq_some_iff.1 info_kn
 simp only [Prod.mk.injEq] at hz
 obtain ⟨z1,z2,z3⟩:=hz
 have hcell:∀ (j:Nat) (u:Value),([.string (strOf x.1),.int .i64 x.2]:List Value)[j]?=some u→w.cell? ((⟨bx,0,none⟩:Addr).add j)=some u:=fun j u hj=>by
  match j with
  | 0=>
   simp at hj
   subst hj
   have:(⟨bx,0,none⟩:Addr).add 0=⟨bx,0,none⟩:=by simp [Addr.add]
   rw [this]
   exact h0
  | 1=>
   simp at hj
   subst hj
   have:(⟨bx,0,none⟩:Addr).add 1=⟨bx,1,none⟩:=by simp [Addr.add]
   rw [this]
   exact h1
  | j+2=>simp at hj
 obtain ⟨v',w',hr,k1,k2,_,k5⟩:=run_append_own_at (P:=Try.prog) w 0 82 ty 85 i (.agg #[.string ⟨#[]⟩,.int .i64 0]) 2 24 Try.underlying82 hi z1 z2 z3 rfl (by omega) v l.length (kcs l) hown ⟨bx,0,none⟩ 1 capx [.string (strOf x.1),.int .i64 x.2] rfl hcell (by simp [Value.oneCell']) (by unfold maxLen;omega) (by omega) (Nat.zero_le _)
 have hsh:∃ a cap,v'=.slice a (l.length+1) cap:=by
  rcases k1.2 with ⟨_,hn⟩ | ⟨g,cap,cur,rfl,_⟩
  ·omega
  ·exact ⟨_,_,rfl⟩
 obtain ⟨a,cap,rfl⟩:=hsh
 refine ⟨a,cap,w',hr,?_,Only.of_grown k2,fun g hg=>?_⟩
 ·unfold OKn
  rw [kcs_snoc,List.length_append]
  exact k1
 ·rcases k5 with k5 | k5
  ·exact .inl (by rw [← k5];exact hg)
  ·rw [k5] at hg
   exact .inr (Nat.le_of_eq (Option.some.inj hg))
section
variable {w:World} {ops:Array Oper} {rest:List Oper} {o:Oper} {a:Act} {Q:Exit→Act→World→Prop}
theorem step_append_kn {K:Act→World→Prop} {E:Prop} (hg:o.guard=none) (s x:Operand) (hop:o.op=Op.call {callee:=Callee.builtin Builtin.append,args:=#[s,x],argTypes:=#[82,82] })
  (v:Value) (l:List (Sec×Int)) (hs:a.eval s=v) (hown:OKn w v l) (bx capx:Nat) (hx:a.eval x=.slice (some ⟨bx,0,none⟩) 1 capx) (y:Sec×Int) (h0:w.cell? ⟨bx,0,none⟩=some (.string (strOf y.1))) (h1:w.cell? ⟨bx,1,none⟩=some (.int .i64 y.2)) (hn:l.length≤1048576)
  (hK:∀ a' cap w',OKn w' (.slice a' (l.length+1) cap) (l++[y])→Ext w v w' (.slice a' (l.length+1) cap)→K (a.put o.dst (.slice a' (l.length+1) cap)) w') :
  if Region.wanted o (yielded ops a.tmps)=true then Oper.wp Try.prog o a w K Q else E:=by
 have hw:Region.wanted o (yielded ops a.tmps)=true:=by simp [Region.wanted,hg]
 rw [if_pos hw]
 obtain ⟨a',cap,w',hrun,k1,k2⟩:=run_append_kn o.type v l hown bx capx y h0 h1 hn
 unfold Oper.wp
 simp [execOp,hop,resolve,invoke,builtin,hs,hx,hrun,Result.andThen]
 exact hK a' cap w' k1 k2
end
theorem kcs_append (l r:List (Sec×Int)):kcs (l++r)=kcs l++kcs r:=by simp [kcs]
theorem kcs_one (l:List (Sec×Int)):∀ u∈kcs l,u.oneCell'=true:=by
 intro u hu
 simp only [kcs,List.mem_flatten,List.mem_map] at hu
 obtain ⟨_,⟨x,_,rfl⟩,hu⟩:=hu
 simp at hu
 rcases hu with rfl | rfl<;>rfl
theorem run_append_kns {w:World} (ty:TypeId) (v x:Value) (l r:List (Sec×Int)) (hown:OKn w v l) (hx:OKn w x r) (hn:l.length+r.length≤1048576) :
  ∃ a cap w',(Builtin.append_ #[82,82] ty #[v,x]).run Try.prog w=.ok (.slice a (l.length+r.length) cap) w'∧OKn w' (.slice a (l.length+r.length) cap) (l++r)∧Ext w v w' (.slice a (l.length+r.length) cap):=by
 obtain ⟨i,hi,hz⟩:=Option.map_eq_some_iff.1 info_kn
 simp only [Prod.mk.injEq] at hz
 obtain ⟨z1,z2,z3⟩:=hz
 by_cases h0:r.length=0
 ·obtain rfl:r=[]:=List.eq_nil_of_length_eq_zero h0
  obtain ⟨a,cap,rfl⟩:=hown.shape
  obtain ⟨ao,capx,rfl⟩:=hx.shape
  refine ⟨a,cap,w,run_append_empty (P:=Try.prog) 0 82 ty 85 i 2 Try.underlying82 hi _ _ _ hown ao capx,by simpa using hown,by simpa using Ext.refl w _⟩
 ·rcases hx.2 with ⟨_,hn0⟩ | ⟨g,capx,cur,rfl,_,hg,hcap,_,hsz,htk⟩
  ·omega
  have hcell:∀ (j:Nat) (u:Value),(kcs r)[j]?=some u→w.cell? ((⟨g,0,none⟩:Addr).add j)=some u:=fun j u hj=>by
   have hadd:(⟨g,0,none⟩:Addr).add j=⟨g,j,none⟩:=by unfold Addr.add;split<;>simp_all
   have hlt:j < (kcs r).length:=(List.getElem?_eq_some_iff.1 hj).1
   rw [kcs_length] at hlt
   rw [hadd,cell_at _ hg]
   rw [← htk,List.getElem?_take_of_lt (by omega)] at hj
   simpa using hj
  obtain ⟨v',w',hr,k1,k2,_,k5⟩:=run_append_own_at (P:=Try.prog) w 0 82 ty 85 i (.agg #[.string ⟨#[]⟩,.int .i64 0]) 2 24 Try.underlying82 hi z1 z2 z3 rfl (by omega) v l.length (kcs l) hown ⟨g,0,none⟩ r.length capx (kcs r) (by rw [kcs_length,Nat.mul_comm]) hcell (kcs_one r) (by unfold maxLen;omega) (by omega) (Nat.zero_le _)
  have hsh:∃ a cap,v'=.slice a (l.length+r.length) cap:=by
   rcases k1.2 with ⟨_,hn⟩ | ⟨g,cap,cur,rfl,_⟩
   ·omega
   ·exact ⟨_,_,rfl⟩
  obtain ⟨a,cap,rfl⟩:=hsh
  refine ⟨a,cap,w',hr,?_,Only.of_grown k2,fun g hg=>?_⟩
  ·unfold OKn
   rw [kcs_append,List.length_append]
   exact k1
  ·rcases k5 with k5 | k5
   ·exact .inl (by rw [← k5];exact hg)
   ·rw [k5] at hg
    exact .inr (Nat.le_of_eq (Option.some.inj hg))
section
variable {w:World} {ops:Array Oper} {rest:List Oper} {o:Oper} {a:Act} {Q:Exit→Act→World→Prop}
theorem step_append_kns {K:Act→World→Prop} {E:Prop} (hg:o.guard=none) (s x:Operand) (hop:o.op=Op.call {callee:=Callee.builtin Builtin.append,args:=#[s,x],argTypes:=#[82,82] })
  (v xv:Value) (l r:List (Sec×Int)) (hs:a.eval s=v) (hown:OKn w v l) (hx:a.eval x=xv) (hr:OKn w xv r) (hn:l.length+r.length≤1048576)
  (hK:∀ a' cap w',OKn w' (.slice a' (l.length+r.length) cap) (l++r)→Ext w v w' (.slice a' (l.length+r.length) cap)→K (a.put o.dst (.slice a' (l.length+r.length) cap)) w') :
  if Region.wanted o (yielded ops a.tmps)=true then Oper.wp Try.prog o a w K Q else E:=by
 have hw:Region.wanted o (yielded ops a.tmps)=true:=by simp [Region.wanted,hg]
 rw [if_pos hw]
 obtain ⟨a',cap,w',hrun,k1,k2⟩:=run_append_kns o.type v xv l r hown hr hn
 unfold Oper.wp
 simp [execOp,hop,resolve,invoke,builtin,hs,hx,hrun,Result.andThen]
 exact hK a' cap w' k1 k2
end
section
variable {w:World} {ops:Array Oper} {rest:List Oper} {o:Oper} {a:Act} {Q:Exit→Act→World→Prop}
theorem wpList_append_kn (hg:o.guard=none) (s x:Operand) (hop:o.op=Op.call {callee:=Callee.builtin Builtin.append,args:=#[s,x],argTypes:=#[82,82] })
  (v:Value) (l:List (Sec×Int)) (hs:a.eval s=v) (hown:OKn w v l) (bx capx:Nat) (hx:a.eval x=.slice (some ⟨bx,0,none⟩) 1 capx) (y:Sec×Int) (h0:w.cell? ⟨bx,0,none⟩=some (.string (strOf y.1))) (h1:w.cell? ⟨bx,1,none⟩=some (.int .i64 y.2)) (hn:l.length≤1048576)
  (hK:∀ a' cap w',OKn w' (.slice a' (l.length+1) cap) (l++[y])→Ext w v w' (.slice a' (l.length+1) cap)→wpList Try.prog ops Q rest (a.put o.dst (.slice a' (l.length+1) cap)) w'):wpList Try.prog ops Q (o :: rest) a w:=by
 refine wpList_plain hg fun K' hK'=>?_
 obtain ⟨a',cap,w',hrun,k1,k2⟩:=run_append_kn o.type v l hown bx capx y h0 h1 hn
 unfold Oper.wp
 simp [execOp,hop,resolve,invoke,builtin,hs,hx,hrun,Result.andThen]
 exact hK' _ _ (hK _ _ w' k1 k2)
theorem wpList_append_kns (hg:o.guard=none) (s x:Operand) (hop:o.op=Op.call {callee:=Callee.builtin Builtin.append,args:=#[s,x],argTypes:=#[82,82] })
  (v xv:Value) (l r:List (Sec×Int)) (hs:a.eval s=v) (hown:OKn w v l) (hx:a.eval x=xv) (hr:OKn w xv r) (hn:l.length+r.length≤1048576)
  (hK:∀ a' cap w',OKn w' (.slice a' (l.length+r.length) cap) (l++r)→Ext w v w' (.slice a' (l.length+r.length) cap)→wpList Try.prog ops Q rest (a.put o.dst (.slice a' (l.length+r.length) cap)) w'):wpList Try.prog ops Q (o :: rest) a w:=by
 refine wpList_plain hg fun K' hK'=>?_
 obtain ⟨a',cap,w',hrun,k1,k2⟩:=run_append_kns o.type v xv l r hown hr hn
 unfold Oper.wp
 simp [execOp,hop,resolve,invoke,builtin,hs,hx,hrun,Result.andThen]
 exact hK' _ _ (hK _ _ w' k1 k2)
end
theorem OKn.empty (w:World):OKn (w.alloc (.cells #[] 85)) (.slice (some ⟨w.heap.size,0,none⟩) 0 0) []:=
 ⟨rfl,.inr ⟨w.heap.size,0,_,rfl,Nat.zero_le _,heap_new w _,Nat.le_refl _,by unfold maxLen;omega,rfl,rfl⟩⟩
theorem OKn.rt {w w':World} {lo g:Nat} {v v' x:Value} {r:RS} {l:List (Sec×Int)} (h:OKn w x l) (hr:RK w lo g v r) (ht:RT w w' g v v'):OKn w' x l:=by
 refine ⟨h.1,?_⟩
 rcases h.2 with hn | ⟨b,cap,cur,rfl,hb,hg,q⟩
 ·exact .inl hn
 ·exact .inr ⟨b,cap,cur,rfl,hb,ht.heap hr hg (by decide) (by decide),q⟩
theorem RK.ext {w w':World} {lo g:Nat} {v x x':Value} {r:RS} {l:List (Sec×Int)} (hr:RK w lo g v r) (h:OKn w x l) (he:Ext w x w' x'):RK w' lo g v r:=by
 have hk:∀ k,x.ownBlock=some k→∀ cs t fr,w.heap[k]?=some (.cells cs t fr)→t=85:=fun k hk cs t fr hg=>h.ty hk hg
 refine ⟨he.only.heap hr.row (fun e=>?_),?_,hr.lo_le,hr.len⟩
 ·exact absurd (hk g (by simpa using e) _ _ _ hr.row) (by decide)
 ·refine ⟨hr.own.1,?_⟩
  rcases hr.own.2 with hn | ⟨b,cap,cur,rfl,hb,hg,q⟩
  ·exact .inl hn
  ·exact .inr ⟨b,cap,cur,rfl,hb,he.only.heap hg (fun e=>absurd (hk b (by simpa using e) _ _ _ hg) (by decide)),q⟩
end Go.Proofs.Ytiaeagpepfmfgaa
namespace Go.Proofs.Ytiaeagpepfmfgaa
open Go.RowKit Go.Maps
set_option linter.unusedSimpArgs false
set_option linter.unusedVariables false
set_option maxRecDepth 100000 in
set_option maxHeartbeats 8000000 in
theorem rwants_any (w:World) (k nn p:Int) (nm:Sec) (a:Option Addr) (l c:Nat) (i:Nat) (ts:List Int) (x:Int) (hx:ts[0]?=some x) (b n vc:Nat) (cx:w.cell? ⟨b,0,none⟩=some (.int .i64 x)) (hp:0 < n) :
  Calls Try.prog 76 #[.agg #[.int .i64 k,.int .i64 nn,.string (strOf nm),.slice a l c,.int .i64 p],.int .i64 (i:Int),.slice (some ⟨b,0,none⟩) n vc] w fun e w'=>e=.returned (.int .i64 (wantsR k nm i ts))∧Only [] w w':=by
 obtain ⟨N,hN⟩:∃ N,N=strOf nm:=⟨_,rfl⟩
 rw [← hN]
 have hd:N.data.toList=nm:=by rw [hN];simp [strOf]
 obtain ⟨R,hR⟩:∃ R,R=wantsR k nm i ts:=⟨_,rfl⟩
 rw [← hR]
 unfold wantsR at hR
 rw [hx] at hR
 have hp':(0:Int) < (n:Int):=by omega
 clear hN hx hp
 by_cases h4:k=4
 ·rw [if_pos h4] at hR
  subst h4 hR
  clear hd
  go_enter Try.func76,Try.ntmps76
  go_wp2_with fail
  go_ret
  exact ⟨rfl,(Only.refl [] w).alloc _⟩
 ·rw [if_neg h4] at hR
  have h4':(k == 4)=false:=by simpa using h4
  by_cases h6:k=6
  ·rw [if_neg (by simpa using h6)] at hR
   subst h6
   have hb:=World.block_lt_of_cell? _ _ cx
   have hb2:b≠w.heap.size:=Nat.ne_of_lt hb
   by_cases h1:nm=[38,38]∨nm=[124,124]
   ·rw [if_pos h1] at hR
    subst hR
    rcases h1 with h1 | h1<;>
    ·obtain rfl:=str_eq_iff.2 (hd.trans h1)
     clear hd h1 h4 h4' cx hb hb2
     go_enter Try.func76,Try.ntmps76
     go_wp2_with fail
     go_ret
     exact ⟨rfl,(Only.refl [] w).alloc _⟩
   ·rw [if_neg h1] at hR
    have n1:(N.toList == [38,38])=false:=str_neq (fun e=>h1 (.inl (hd.symm.trans e)))
    have n2:(N.toList == [124,124])=false:=str_neq (fun e=>h1 (.inr (hd.symm.trans e)))
    by_cases h2:nm=[61,61]∨nm=[33,61]
    ·rw [if_pos h2] at hR
     by_cases hi:i=0
     ·rw [if_pos hi] at hR
      subst hi hR
      rcases h2 with h2 | h2<;>
      ·obtain rfl:=str_eq_iff.2 (hd.trans h2)
       clear hd h2 h1 n1 n2 h4 h4' cx hb hb2
       go_enter Try.func76,Try.ntmps76
       go_wp2_with fail
       go_ret
       exact ⟨rfl,(Only.refl [] w).alloc _⟩
     ·rw [if_neg hi] at hR
      obtain ⟨I,hI⟩:∃ I:Int,I=i:=⟨_,rfl⟩
      rw [← hI]
      have hi':(I == 0)=false:=by rw [hI];simp;omega
      replace hR:R=x:=hR
      subst hR
      rcases h2 with h2 | h2
      ·skip
       obtain rfl:=str_eq_iff.2 (hd.trans h2)
       clear hd h2 h1 n1 n2 h4 h4' hi hI
       go_enter Try.func76,Try.ntmps76
       go_upto_region 13 with (fail)
       have oz:Only [] w (w.alloc (.cells #[.int .i64 6,.int .i64 nn,.string ⟨#[61,61]⟩,.slice a l c,.int .i64 p] 70)):=(Only.refl [] w).alloc _
       have cz:=cell_kept oz cx (by simp)
       generalize w.alloc (.cells #[.int .i64 6,.int .i64 nn,.string ⟨#[61,61]⟩,.slice a l c,.int .i64 p] 70)=w2 at oz cz⊢
       clear cx hb hb2
       go_wp2_with fail
       go_ret
       exact ⟨rfl,oz⟩
      ·skip
       obtain rfl:=str_eq_iff.2 (hd.trans h2)
       clear hd h2 h1 n1 n2 h4 h4' hi hI
       go_enter Try.func76,Try.ntmps76
       go_upto_region 13 with (fail)
       have oz:Only [] w (w.alloc (.cells #[.int .i64 6,.int .i64 nn,.string ⟨#[33,61]⟩,.slice a l c,.int .i64 p] 70)):=(Only.refl [] w).alloc _
       have cz:=cell_kept oz cx (by simp)
       generalize w.alloc (.cells #[.int .i64 6,.int .i64 nn,.string ⟨#[33,61]⟩,.slice a l c,.int .i64 p] 70)=w2 at oz cz⊢
       clear cx hb hb2
       go_wp2_with fail
       go_ret
       exact ⟨rfl,oz⟩
    ·rw [if_neg h2] at hR
     have n3:(N.toList == [61,61])=false:=str_neq (fun e=>h2 (.inl (hd.symm.trans e)))
     have n4:(N.toList == [33,61])=false:=str_neq (fun e=>h2 (.inr (hd.symm.trans e)))
     subst hR
     clear hd h2 h1 h4 h4' cx hb hb2
     go_enter Try.func76,Try.ntmps76
     go_wp2_with fail
     go_ret
     exact ⟨rfl,(Only.refl [] w).alloc _⟩
  ·rw [if_pos (by simpa using h6)] at hR
   have h6':(k != 6)=true:=by simpa using h6
   subst hR
   clear hd h4 h6
   go_enter Try.func76,Try.ntmps76
   go_wp2_with fail
   go_ret
   exact ⟨rfl,(Only.refl [] w).alloc _⟩
end Go.Proofs.Ytiaeagpepfmfgaa
namespace Go.Proofs.Ytiaeagpepfmfgaa
open Go.RowKit Go.Maps
set_option linter.unusedSimpArgs false
set_option linter.unusedVariables false
section
variable {w w' w2:World} {lo g base:Nat} {v v' x:Value} {r:RS}
theorem RT.own {S:List Nat} (h:RT w w' g v v') (ho:Only S w' w2) (hs:∀ k∈S,w.heap.size≤k):RT w w2 g v v':=
 ⟨h.only.trans ho (fun k hk=>.inr (hs k hk)),h.src⟩
theorem row_ty {n:Nat} {xs:List Value} (h:w.ownsRow base 3 1 x n xs) {k:Nat} {t:TypeId} {c:Array Value} {fr:Nat×Nat} (hk:x.ownBlock=some k) (hg:w.heap[k]?=some (.cells c t fr)):t=3:=by
 rcases h.2 with ⟨rfl,_⟩ | ⟨b,cap,cur,rfl,hb,hg',_⟩
 ·cases hk
 ·obtain rfl:b=k:=by simpa [Value.ownBlock] using hk
  rw [hg'] at hg
  simp only [Option.some.injEq,Obj.cells.injEq] at hg
  exact hg.2.1.symm
theorem row_past {n:Nat} {xs:List Value} (h:w.ownsRow base 3 1 x n xs) (ho:Only x.ownBlock.toList w w') {k:Nat} {t:TypeId} {c:Array Value} {fr:Nat×Nat} (hg:w.heap[k]?=some (.cells c t fr)) (ht:t≠3):w'.heap[k]?=some (.cells c t fr):=
 ho.heap hg (fun e=>ht (row_ty h (by simpa using e) hg))
theorem RK.row_int {n:Nat} {xs:List Value} (hr:RK w lo g v r) (h:w.ownsRow base 3 1 x n xs) (ho:Only x.ownBlock.toList w w'):RK w' lo g v r:=by
 refine ⟨row_past h ho hr.row (by decide),?_,hr.lo_le,hr.len⟩
 refine ⟨hr.own.1,?_⟩
 rcases hr.own.2 with hn | ⟨b,cap,cur,rfl,hb,hg,q⟩
 ·exact .inl hn
 ·exact .inr ⟨b,cap,cur,rfl,hb,row_past h ho hg (by decide),q⟩
theorem OKn.row_int {n:Nat} {xs:List Value} {y:Value} {l:List (Sec×Int)} (hr:OKn w y l) (h:w.ownsRow base 3 1 x n xs) (ho:Only x.ownBlock.toList w w'):OKn w' y l:=by
 refine ⟨hr.1,?_⟩
 rcases hr.2 with hn | ⟨b,cap,cur,rfl,hb,hg,q⟩
 ·exact .inl hn
 ·exact .inr ⟨b,cap,cur,rfl,hb,row_past h ho hg (by decide),q⟩
theorem row_rt {n:Nat} {xs:List Value} (h:w.ownsRow base 3 1 x n xs) (hr:RK w lo g v r) (ht:RT w w' g v v'):w'.ownsRow base 3 1 x n xs:=by
 refine ⟨h.1,?_⟩
 rcases h.2 with hn | ⟨b,cap,cur,rfl,hb,hg,q⟩
 ·exact .inl hn
 ·exact .inr ⟨b,cap,cur,rfl,hb,ht.heap hr hg (by decide) (by decide),q⟩
theorem row_quiet {n:Nat} {xs:List Value} (h:w.ownsRow base 3 1 x n xs) (ho:Only [] w w'):w'.ownsRow base 3 1 x n xs:=by
 refine ⟨h.1,?_⟩
 rcases h.2 with hn | ⟨b,cap,cur,rfl,hb,hg,q⟩
 ·exact .inl hn
 ·exact .inr ⟨b,cap,cur,rfl,hb,ho.heap hg (by simp),q⟩
theorem row_first {b n cap:Nat} {ts:List Int} {t:Int} (h:w.ownsRow base 3 1 (.slice (some ⟨b,0,none⟩) n cap) n (iv ts)) (ht:ts[0]?=some t):w.cell? ⟨b,0,none⟩=some (.int .i64 t):=by
 rcases h.2 with ⟨e,hn⟩ | ⟨b',cap',cur,e,hb,hg,hc,_,hz,htk⟩
 ·cases e
 ·cases e
  have hlt:0 < ts.length:=(List.getElem?_eq_some_iff.1 ht).1
  have h1:(iv ts)[0]?=some (Value.int .i64 t):=by simp [iv,ht]
  have hl:=h.1
  rw [iv_length] at hl
  rw [cell_at _ hg]
  rw [← htk,List.getElem?_take_of_lt (by omega)] at h1
  simpa using h1
end
theorem argsR_drop {r:RS} {k:Int} {nm:Sec} {xs:List E} {env:Env} {ts:List Int} {j:Nat} {e:E} (hj:xs[j]?=some e) (hl:ts.length=j) :
  argsR r k nm (xs.drop j) env ts=argsR (if wantsR k nm j (ts++[(kindR r e env).1])≠0∧(kindR r e env).1≠wantsR k nm j (ts++[(kindR r e env).1]) then (kindR r e env).2.fail 10 e.pos else (kindR r e env).2) k nm (xs.drop (j+1)) env (ts++[(kindR r e env).1]):=by
 obtain ⟨hlt,rfl⟩:=List.getElem?_eq_some_iff.1 hj
 rw [List.drop_eq_getElem_cons hlt]
 conv=>lhs;unfold argsR
 rw [hl]
theorem lookE_drop {env:Env} {nm:Sec} {j:Nat} {y:Sec×Int} (hj:env[j]?=some y):lookE (env.drop j) nm=if y.1=nm then some y.2 else lookE (env.drop (j+1)) nm:=by
 obtain ⟨hlt,rfl⟩:=List.getElem?_eq_some_iff.1 hj
 rw [List.drop_eq_getElem_cons hlt,lookE_cons]
theorem typeR_some {r:RS} {nm:Sec} {p t:Int} {env:Env} (ht:¬ (nm=[116,114,117,101]∨nm=[102,97,108,115,101])) (h:lookE env nm=some t):typeR r 2 nm p env=(t,r):=by
 unfold typeR
 rw [if_pos rfl,if_neg ht,h]
theorem typeR_none {r:RS} {nm:Sec} {p:Int} {env:Env} (ht:¬ (nm=[116,114,117,101]∨nm=[102,97,108,115,101])) (h:lookE env nm=none):typeR r 2 nm p env=(1,r.fail 9 p):=by
 unfold typeR
 rw [if_pos rfl,if_neg ht,h]
def CKindP (N:Nat):Prop:=∀ (e:E),sizeE e≤N→∀ (w:World) (lo g:Nat) (v:Value) (r:RS) (cs:List Value) (B:Nat→Prop) (env:Env) (ve:Value),RK w lo g v r→EV w B e cs→(∀ k,B k→k < lo)→OKn w ve env→env.length≤1000000→
 Calls Try.prog 54 #[.pointer (some ⟨g,0,none⟩),.agg cs.toArray,ve] w fun en w'=>en=.returned (.int .i64 (kindR r e env).1)∧∃ v',RK w' lo g v' (kindR r e env).2∧RT w w' g v v'
set_option maxRecDepth 100000 in
set_option maxHeartbeats 16000000 in
theorem rkind_step (N:Nat) (hNN:N≤1000000) (IK:CKindP N):CKindP (N+1):=by
 intro e he w lo g v r cs B env ve hr hv hB hve henv
 obtain ⟨k,nn,nm,xs,p⟩:=e
 obtain ⟨R,hR⟩:∃ R,R=kindR r (.mk k nn nm xs p) env:=⟨_,rfl⟩
 rw [← hR]
 unfold kindR at hR
 rw [sizeE_mk] at he
 unfold EV at hv
 obtain ⟨a,cap,rfl,hc,hx⟩:=hv
 have hxs:=EsV.of_parts hc hx
 obtain ⟨n,hn⟩:∃ n,n=xs.length:=⟨_,rfl⟩
 have hlen:=sizeL_len xs
 rw [← hn] at hxs hlen⊢
 obtain ⟨sn,hsn⟩:∃ sn,sn=strOf nm:=⟨_,rfl⟩
 rw [← hsn]
 have HR:=Lib.hid hR
 have HK:=Lib.hid hr
 have HX:=Lib.hid hxs
 have HB:=Lib.hid hB
 have HE:=Lib.hid hve
 have HN:=Lib.hid hn
 have HSN:=Lib.hid hsn
 have hnb:n≤1000000:=by omega
 obtain ⟨A,hA⟩:∃ A,A=argsR r k nm xs env []:=⟨_,rfl⟩
 have HA:=Lib.hid hA
 clear hR hr hx hc hxs hB hve hn hsn hA
 go_enter Try.func54,Try.ntmps54
 go_upto_region 3 with (fail)
 have oA:=(Only.refl [] w).alloc (.cells #[.int .i64 k,.int .i64 nn,.string sn,.slice a n cap,.int .i64 p] 70)
 have hb:=heap_new w (.cells #[.int .i64 k,.int .i64 nn,.string sn,.slice a n cap,.int .i64 p] 70)
 generalize w.alloc (.cells #[.int .i64 k,.int .i64 nn,.string sn,.slice a n cap,.int .i64 p] 70)=w1 at oA hb⊢
 have HBX:=Lib.hid hb
 have HOA:=Lib.hid oA
 obtain ⟨gb,hgb⟩:∃ gb,gb=w.heap.size:=⟨_,rfl⟩
 rw [← hgb] at HBX⊢
 have HGB:=Lib.hid hgb
 clear oA hb hgb
 go_loopw [7,8] (fun vt ix wr=>∃ (j:Nat) (ts:List Int) (vj:Value) (rj:RS),j≤n∧ix=.int .i64 (j:Int)∧Hid (ts.length=j)∧Hid (wr.ownsRow w.heap.size 3 1 vt j (iv ts))∧Hid (RK wr lo g vj rj)∧Hid (RT w wr g v vj)∧
  Hid (A=argsR rj k nm (xs.drop j) env ts)∧Hid (wr.heap[gb]?=some (.cells #[.int .i64 k,.int .i64 nn,.string sn,.slice a n cap,.int .i64 p] 70 (0,0)))∧Hid (OKn wr ve env)∧Hid (EsV wr B (.slice a n cap) xs)) (fun _ ix _=>n - (intOf ix).toNat)
 case atStart=>exact ⟨0,[],v,r,Nat.zero_le _,rfl,Lib.hid rfl,Lib.hid (World.ownsRow_nil _ _ _ _),Lib.hid (HK.out.quiet HOA.out),Lib.hid (RT.of_quiet HOA.out g v),Lib.hid (by rw [HA.out,List.drop_zero]),HBX,Lib.hid (HE.out.kept HOA.out (by simp)),Lib.hid (HX.out.quiet HOA.out)⟩
 case round=>
  obtain ⟨j,ts,vj,rj,hjn,rfl,HTL,HTS,HKj,HTj,HAj,HBj,HEj,HXj⟩:=hrel
  by_cases hlt:j < n
  ·have hlt':(j:Int) < (n:Int):=by omega
   have j0:(0:Int)≤(j:Int):=by omega
   obtain ⟨-,gr,k',nn',nm',ys,p',a',c',rfl,he',x0,x1,x2,x3,x4,hv'⟩:=HXj.out.elem hlt
   have hT1:=sizeL_mem he'
   have hAj:=HAj.out
   rw [argsR_drop he' HTL.out] at hAj
   obtain ⟨e',hee⟩:∃ e',e'=E.mk k' nn' nm' ys p':=⟨_,rfl⟩
   obtain ⟨sn',hsn'⟩:∃ s,s=strOf nm':=⟨_,rfl⟩
   obtain ⟨L,hL⟩:∃ L,L=ys.length:=⟨_,rfl⟩
   have hev:EV wr B e' [.int .i64 k',.int .i64 nn',.string sn',.slice a' L c',.int .i64 p']:=by rw [hee,hsn',hL];exact EV.mk' hv'
   have hpos:e'.pos=p':=by rw [hee];rfl
   have hpx:∀ W,EsV W B (.slice (some ⟨gr,0,none⟩) n cap) xs→W.cell? ⟨gr,j*5+4,none⟩=some (.int .i64 p'):=fun W hW=>by
    obtain ⟨-,gr2,k2,nn2,nm2,ys2,p2,a2,c2,e1,e2,-,-,-,-,e3,-⟩:=hW.elem hlt
    cases e1
    rw [he'] at e2
    cases e2
    exact e3
   rw [← hee] at hT1 hAj
   rw [← hsn'] at x2
   rw [← hL] at x3
   have K1:=IK e' (by omega) wr lo g vj rj _ B env ve HKj.out hev HB.out HEj.out henv
   obtain ⟨t,ht⟩:∃ t,t=(kindR rj e' env).1:=⟨_,rfl⟩
   obtain ⟨r2,hr2⟩:∃ r2,r2=(kindR rj e' env).2:=⟨_,rfl⟩
   rw [← ht,← hr2] at K1 hAj
   rw [hpos] at hAj
   have HAJ:=Lib.hid hAj
   have b3:wr.cell? ⟨gb,3,none⟩=some (.slice (some ⟨gr,0,none⟩) n cap):=cell_at 3 HBj.out
   have HPX:=Lib.hid hpx
   clear hpx hT1 hAj hee hsn' hL hev hpos ht hr2 he' hv' HAj
   go_wp2_with fail
   refine K1.mono ?_
   rintro en w5 ⟨rfl,v5,hk5,ht5⟩
   have hbx5:=ht5.heap HKj.out HBj.out (by decide) (by decide)
   have hts5:=row_rt HTS.out HKj.out ht5
   have hkn5:=HEj.out.rt HKj.out ht5
   have hxs5:=HXj.out.kept ht5.only (fun q hq hb=>HKj.out.below q hq (HB.out q hb)) (fun _ h=>h)
   have HK5:=Lib.hid hk5
   have HT5:=Lib.hid (HTj.out.trans ht5)
   have HBX5:=Lib.hid hbx5
   have HTS5:=Lib.hid hts5
   have HE5:=Lib.hid hkn5
   have HX5:=Lib.hid hxs5
   have hsz5:w.heap.size≤w5.heap.size:=HT5.out.only.size
   clear hk5 ht5 hbx5 hts5 hkn5 hxs5 K1 x0 x1 x2 x3 x4 b3
   have hown:w5.ownsRow w.heap.size 3 1 u7 ts.length (iv ts):=by rw [HTL.out];exact HTS5.out
   have HOW:=Lib.hid hown
   clear hown
   go_wp2_with (refine wpList_append_int rfl (.tmp 27) (.tmp 29) rfl w.heap.size u7 ts (by rfl) (row_quiet HOW.out ((Only.refl [] w5).alloc (.cells #[.int .i64 t] 3))) w5.heap.size (by rfl) t (cell_at 0 (heap_new w5 (.cells #[.int .i64 t] 3))) (by rw [HTL.out];omega) (by rw [show (w5.alloc (.cells #[.int .i64 t] 3)).heap.size=w5.heap.size+1 from Array.size_push _];omega) ?_;intro g7 cap7 w7 h7 o7;have hbx7:=row_past (row_quiet HOW.out ((Only.refl [] w5).alloc (.cells #[.int .i64 t] 3))) o7 (heap_old (.cells #[.int .i64 t] 3) HBX5.out) (by decide);have H7:=Lib.hid (And.intro hbx7 (And.intro h7 o7));have b0:w7.cell? ⟨gb,0,none⟩=some (.int .i64 k):=cell_at 0 hbx7;have b1:w7.cell? ⟨gb,1,none⟩=some (.int .i64 nn):=cell_at 1 hbx7;have b2:w7.cell? ⟨gb,2,none⟩=some (.string sn):=cell_at 2 hbx7;have b3:w7.cell? ⟨gb,3,none⟩=some (.slice (some ⟨gr,0,none⟩) n cap):=cell_at 3 hbx7;have b4:w7.cell? ⟨gb,4,none⟩=some (.int .i64 p):=cell_at 4 hbx7;clear hbx7 h7 o7)
   obtain ⟨hbx7,h7,o7⟩:=H7.out
   have hoA5:Only [] w5 (w5.alloc (.cells #[.int .i64 t] 3)):=(Only.refl [] w5).alloc _
   have hrow5:=row_quiet HOW.out hoA5
   have hk7:=(HK5.out.quiet hoA5).row_int hrow5 o7
   have he7:=(HE5.out.kept hoA5 (by simp)).row_int hrow5 o7
   have hlo:lo≤w.heap.size:=Nat.le_of_lt (Nat.lt_of_le_of_lt HK.out.lo_le HK.out.g_lt)
   have hge:∀ q∈u7.ownBlock.toList,w.heap.size≤q:=fun q hq=>(World.ownsRow.lt HOW.out q (by simpa using hq)).1
   have hx7:=(HX5.out.quiet hoA5).kept o7 (fun q hq hb=>by have:=hge q hq;have:=HB.out q hb;omega) (fun _ h=>h)
   have ht7:=(HT5.out.quiet hoA5).own o7 hge
   have hlt7:(ts++[t]).length=j+1:=by rw [List.length_append,HTL.out];rfl
   rw [hlt7] at h7
   rw [HTL.out] at h7⊢
   obtain ⟨x,hx0⟩:∃ x,(ts++[t])[0]?=some x:=⟨_,List.getElem?_eq_getElem (by omega)⟩
   have K2:=rwants_any w7 k nn p nm (some ⟨gr,0,none⟩) n cap j (ts++[t]) x hx0 g7 (j+1) cap7 (row_first h7 hx0) (by omega)
   rw [← HSN.out] at K2
   obtain ⟨Wt,hWt⟩:∃ W,W=wantsR k nm j (ts++[t]):=⟨_,rfl⟩
   have hAJ:=HAJ.out
   rw [← hWt] at hAJ K2
   have HK7:=Lib.hid hk7
   have HE7:=Lib.hid he7
   have HX7:=Lib.hid hx7
   have HT7:=Lib.hid ht7
   have HTS7:=Lib.hid h7
   have HBX7:=Lib.hid hbx7
   have HTL7:=Lib.hid hlt7
   have HAJ2:=Lib.hid hAJ
   clear hbx7 h7 o7 hoA5 hrow5 hk7 he7 hlo hge hx7 ht7 hlt7 hx0 hWt hAJ H7 HK5 HE5 HX5 HT5 HTS5 HBX5 HOW HAJ HTS HKj HTj HEj HXj HBj b0 b1 b2 b4 hsz5
   go_wp2_with fail
   refine K2.mono ?_
   rintro en w8 ⟨rfl,o8⟩
   replace HK7:=Lib.hid (HK7.out.quiet o8)
   replace HE7:=Lib.hid (HE7.out.kept o8 (by simp))
   replace HX7:=Lib.hid (HX7.out.quiet o8)
   replace HT7:=Lib.hid (HT7.out.quiet o8)
   replace HTS7:=Lib.hid (row_quiet HTS7.out o8)
   replace HBX7:=Lib.hid (o8.heap HBX7.out (by simp))
   clear K2 o8 b3
   have b3:w8.cell? ⟨gb,3,none⟩=some (.slice (some ⟨gr,0,none⟩) n cap):=cell_at 3 HBX7.out
   have hfin:∀ (wz:World) (vz:Value) (rz:RS),A=argsR rz k nm (xs.drop (j+1)) env (ts++[t])→RK wz lo g vz rz→RT w8 wz g v5 vz→True:=fun _ _ _ _ _ _=>trivial
   by_cases hW0:Wt=0
   ·subst hW0
    have hA2:A=argsR r2 k nm (xs.drop (j+1)) env (ts++[t]):=by have:=HAJ2.out;simpa using this
    have HA2:=Lib.hid hA2
    clear hA2 hfin
    go_wp2_with fail
    go_roundw
    case rel=>exact ⟨j+1,ts++[t],v5,r2,by omega,by go_num,HTL7,HTS7,HK7,HT7,HA2,HBX7,HE7,HX7⟩
    case measure=>simp [intOf];omega
   ·have hW0':(Wt != 0)=true:=by simpa using hW0
    by_cases htW:t=Wt
    ·subst htW
     have hA2:A=argsR r2 k nm (xs.drop (j+1)) env (ts++[t]):=by have:=HAJ2.out;simpa using this
     have HA2:=Lib.hid hA2
     clear hA2 hfin hW0
     go_wp2_with fail
     go_roundw
     case rel=>exact ⟨j+1,ts++[t],v5,r2,by omega,by go_num,HTL7,HTS7,HK7,HT7,HA2,HBX7,HE7,HX7⟩
     case measure=>simp [intOf];omega
    ·have htW':(t != Wt)=true:=by simpa using htW
     have hA2:A=argsR (r2.fail 10 p') k nm (xs.drop (j+1)) env (ts++[t]):=by have:=HAJ2.out;simpa [hW0,htW] using this
     have HA2:=Lib.hid hA2
     have z4:=HPX.out w8 HX7.out
     clear hA2 hfin hW0 htW
     go_wp2_with fail
     refine (rfail_any HK7.out 10 p').mono ?_
     rintro en w9 ⟨rfl,hk9,ht9⟩
     have hbx9:=ht9.heap HK7.out HBX7.out (by decide) (by decide)
     have hts9:=row_rt HTS7.out HK7.out ht9
     have hkn9:=HE7.out.rt HK7.out ht9
     have hxs9:=HX7.out.kept ht9.only (fun q hq hb=>HK7.out.below q hq (HB.out q hb)) (fun _ h=>h)
     have HK9:=Lib.hid hk9
     have HT9:=Lib.hid (HT7.out.trans ht9)
     have HBX9:=Lib.hid hbx9
     have HTS9:=Lib.hid hts9
     have HE9:=Lib.hid hkn9
     have HX9:=Lib.hid hxs9
     clear hk9 ht9 hbx9 hts9 hkn9 hxs9 b3 z4
     go_wp2_with fail
     go_roundw
     case rel=>exact ⟨j+1,ts++[t],v5,r2.fail 10 p',by omega,by go_num,HTL7,HTS9,HK9,HT9,HA2,HBX9,HE9,HX9⟩
     case measure=>simp [intOf];omega
  ·obtain rfl:j=n:=by omega
   have hge:¬ (j:Int) < (j:Int):=by omega
   have hA2:A=rj:=by rw [HAj.out,HN.out,List.drop_length];unfold argsR;rfl
   have hRR:R=typeR rj k nm p env:=by rw [HR.out,← HA.out,hA2]
   have HRR:=Lib.hid hRR
   have b0:wr.cell? ⟨gb,0,none⟩=some (.int .i64 k):=cell_at 0 HBj.out
   have b2:wr.cell? ⟨gb,2,none⟩=some (.string sn):=cell_at 2 HBj.out
   have b3:wr.cell? ⟨gb,3,none⟩=some (.slice a j cap):=cell_at 3 HBj.out
   have b4:wr.cell? ⟨gb,4,none⟩=some (.int .i64 p):=cell_at 4 HBj.out
   have hd:sn.data.toList=nm:=by rw [HSN.out];simp [strOf]
   clear hA2 hRR hlt HTS HAj HXj HTL
   by_cases h2:k=2
   ·subst h2
    by_cases ht:nm=[116,114,117,101]∨nm=[102,97,108,115,101]
    ·have hR2:R=(2,rj):=by rw [HRR.out];unfold typeR;rw [if_pos rfl,if_pos ht]
     have HR2:=Lib.hid hR2
     clear hR2
     rcases ht with ht | ht<;>
     ·obtain rfl:=str_eq_iff.2 (hd.trans ht)
      clear hd ht
      go_wp2_with fail
      go_ret
      exact ⟨by rw [HR2.out];rfl,vj,by rw [HR2.out];exact HKj.out,HTj.out⟩
    ·have n1:(sn.toList == [116,114,117,101])=false:=str_neq (fun e=>ht (.inl (hd.symm.trans e)))
     have n2:(sn.toList == [102,97,108,115,101])=false:=str_neq (fun e=>ht (.inr (hd.symm.trans e)))
     have HRs:=Lib.hid (fun t (h:lookE env nm=some t)=>HRR.out.trans (typeR_some ht h))
     have HRn:=Lib.hid (fun (h:lookE env nm=none)=>HRR.out.trans (typeR_none ht h))
     obtain ⟨ea,ec,rfl⟩:=HEj.out.shape
     obtain ⟨m,hm⟩:∃ m,m=env.length:=⟨_,rfl⟩
     have HM:=Lib.hid hm
     obtain ⟨wo,hwo⟩:∃ wo:World,wo=wr:=⟨_,rfl⟩
     have HKo:=Lib.hid (show RK wo lo g vj rj by rw [hwo];exact HKj.out)
     have HTo:=Lib.hid (show RT w wo g v vj by rw [hwo];exact HTj.out)
     have HEo:=Lib.hid (show OKn wo (.slice ea env.length ec) env by rw [hwo];exact HEj.out)
     have HBo:=Lib.hid (show wo.heap[gb]?=some (.cells #[.int .i64 2,.int .i64 nn,.string sn,.slice a j cap,.int .i64 p] 70 (0,0)) by rw [hwo];exact HBj.out)
     have HWO:=Lib.hid hwo
     rw [← hm] at HEo henv⊢
     clear ht hd hm hwo HKj HTj HEj HBj HRR HR HA HX
     go_upto_region 15 with (fail)
     clear b0 b2 b3 b4
     go_loopw [11] (fun ix wz=>∃ q:Nat,q≤m∧ix=.int .i64 (q:Int)∧Hid (lookE env nm=lookE (env.drop q) nm)∧Hid (Only [] wo wz)) (fun ix _=>m - (intOf ix).toNat)
     case atStart=>exact ⟨0,Nat.zero_le _,rfl,Lib.hid (by rw [List.drop_zero]),Lib.hid (by rw [HWO.out];exact Only.refl _ _)⟩
     case round=>
      obtain ⟨q,hqm,rfl,HL,HOz⟩:=hrel
      have hb:=HOz.out.heap HBo.out (by simp)
      have b2:wr.cell? ⟨gb,2,none⟩=some (.string sn):=cell_at 2 hb
      have b4:wr.cell? ⟨gb,4,none⟩=some (.int .i64 p):=cell_at 4 hb
      have he:=HEo.out.kept HOz.out (by simp)
      clear hb
      by_cases hq:q < m
      ·have hq':(q:Int) < (m:Int):=by omega
       have q0:(0:Int)≤(q:Int):=by omega
       obtain ⟨y,hy⟩:∃ y,env[q]?=some y:=⟨_,List.getElem?_eq_getElem (by rw [← HM.out];exact hq)⟩
       obtain ⟨ge,ce,e1,y0,y1⟩:=he.at_ hy
       injection e1 with e1 _ _
       subst e1
       obtain ⟨Y,hY⟩:∃ Y,Y=strOf y.1:=⟨_,rfl⟩
       rw [← hY] at y0
       have heq:=strs_eq hY HSN.out
       have hl:=lookE_drop (nm:=nm) hy
       obtain ⟨yt,hyt⟩:∃ yt,yt=y.2:=⟨_,rfl⟩
       rw [← hyt] at y1 hl
       by_cases hye:y.1=nm
       ·have heq':(Y.toList == sn.toList)=true:=by rw [heq];simpa using hye
        have hR2:R=(yt,rj):=HRs.out yt (by rw [HL.out,hl,if_pos hye])
        have HR2:=Lib.hid hR2
        clear heq hl hy hye hR2 hY hyt he
        go_wp2_with fail
        go_quiet (fail)
        have od:Only [] wr (wr.drewN nq):=only_drewN' (Only.refl [] wr)
        have y1':=cell_kept od y1 (by simp)
        have HO2:=Lib.hid (HOz.out.trans od (by simp))
        clear y0 y1 b2 b4 od
        generalize wr.drewN nq=wd at y1' HO2⊢
        go_wp2_with fail
        go_ret
        exact ⟨by rw [HR2.out];rfl,vj,by rw [HR2.out];exact HKo.out.quiet HO2.out,HTo.out.quiet HO2.out⟩
       ·have heq':(Y.toList == sn.toList)=false:=by rw [heq];simpa using hye
        have HL2:=Lib.hid (show lookE env nm=lookE (env.drop (q+1)) nm by rw [HL.out,hl,if_neg hye])
        clear heq hl hy hye hY hyt he
        go_wp2_with fail
        go_quiet (fail)
        have HO2:=Lib.hid (HOz.out.trans (only_drewN' (n:=nq) (Only.refl [] wr)) (by simp))
        clear y0 y1 b2 b4
        generalize wr.drewN nq=wd at HO2⊢
        go_wp2_with fail
        go_roundw
        case rel=>exact ⟨q+1,by omega,by go_num,HL2,HO2⟩
        case measure=>simp [intOf];omega
      ·obtain rfl:q=m:=by omega
       have hqq:¬ (q:Int) < (q:Int):=by omega
       have hn:lookE env nm=none:=by rw [HL.out,HM.out,List.drop_length];rfl
       have HR2:=Lib.hid (HRn.out hn)
       have hk:=HKo.out.quiet HOz.out
       have HK2:=Lib.hid hk
       clear hn he hk
       go_wp2_with fail
       refine (rfail_any HK2.out 9 p).mono ?_
       rintro en w9 ⟨rfl,hk9,ht9⟩
       have HK9:=Lib.hid hk9
       have HT9:=Lib.hid ((HTo.out.quiet HOz.out).trans ht9)
       clear hk9 ht9
       go_wp2_with fail
       go_ret
       exact ⟨by rw [HR2.out];rfl,vj,by rw [HR2.out];exact HK9.out,HT9.out⟩
   ·have h2':(k == 2)=false:=by simpa using h2
    have hne:¬ (k=2):=h2
    by_cases h4:k=4
    ·subst h4
     have HR2:=Lib.hid (show R=(2,rj) by rw [HRR.out];unfold typeR;rw [if_neg (by decide),if_pos rfl])
     clear hd
     go_wp2_with fail
     go_ret
     exact ⟨by rw [HR2.out];rfl,vj,by rw [HR2.out];exact HKj.out,HTj.out⟩
    ·have h4':(k == 4)=false:=by simpa using h4
     by_cases h6:k=6
     ·subst h6
      have hR2:R=(if ar5 nm then 1 else 2,rj):=by rw [HRR.out];unfold typeR;rw [if_neg (by decide),if_neg (by decide),if_pos rfl]
      by_cases har:ar5 nm
      ·rw [if_pos har] at hR2
       have HR2:=Lib.hid hR2
       clear hR2
       rcases har with h | h | h | h | h<;>
       ·obtain rfl:=str_eq_iff.2 (hd.trans h)
        clear hd h h2 h4 h2' h4' hne
        go_wp2_with fail
        go_ret
        exact ⟨by rw [HR2.out];rfl,vj,by rw [HR2.out];exact HKj.out,HTj.out⟩
      ·rw [if_neg har] at hR2
       have HR2:=Lib.hid hR2
       have n1:(sn.toList == [43])=false:=str_neq (fun e=>har (.inl (hd.symm.trans e)))
       have n2:(sn.toList == [45])=false:=str_neq (fun e=>har (.inr (.inl (hd.symm.trans e))))
       have n3:(sn.toList == [42])=false:=str_neq (fun e=>har (.inr (.inr (.inl (hd.symm.trans e)))))
       have n4:(sn.toList == [47])=false:=str_neq (fun e=>har (.inr (.inr (.inr (.inl (hd.symm.trans e))))))
       have n5:(sn.toList == [37])=false:=str_neq (fun e=>har (.inr (.inr (.inr (.inr (hd.symm.trans e))))))
       clear hR2 hd har h2 h4 h2' h4' hne
       go_wp2_with fail
       go_ret
       exact ⟨by rw [HR2.out];rfl,vj,by rw [HR2.out];exact HKj.out,HTj.out⟩
     ·have h6':(k == 6)=false:=by simpa using h6
      have HR2:=Lib.hid (show R=(1,rj) by rw [HRR.out];unfold typeR;rw [if_neg h2,if_neg h4,if_neg h6])
      clear hd h2 h4 h6 hne
      go_wp2_with fail
      go_ret
      exact ⟨by rw [HR2.out];rfl,vj,by rw [HR2.out];exact HKj.out,HTj.out⟩
theorem rkind_all (N:Nat) (hN:N≤1000000):CKindP N:=by
 induction N with
 | zero=>exact fun e he=>by cases e;rw [sizeE_mk] at he;omega
 | succ N ih=>exact rkind_step N (by omega) (ih (by omega))
end Go.Proofs.Ytiaeagpepfmfgaa
namespace Go.Proofs.Ytiaeagpepfmfgaa
open Go.RowKit Go.Maps
set_option linter.unusedSimpArgs false
set_option linter.unusedVariables false
section
variable {w:World} {lo g:Nat} {v:Value} {r:RS} {B:Nat→Prop} {env:Env} {ve:Value}
set_option maxRecDepth 100000 in
set_option maxHeartbeats 4000000 in
theorem rneed_any (hr:RK w lo g v r) {e:E} {cs:List Value} (he:EV w B e cs) (hs:sizeE e≤1000000) (hB:∀ k,B k→k < lo) (hve:OKn w ve env) (henv:env.length≤1000000) (want:Int) :
  Calls Try.prog 28 #[.pointer (some ⟨g,0,none⟩),.agg cs.toArray,.int .i64 want,ve] w fun en w'=>en=.returned (.tuple #[])∧∃ v',RK w' lo g v' (needR r e want env)∧RT w w' g v v':=by
 have K0:=rkind_all 1000000 (Nat.le_refl _) e hs
 obtain ⟨p,hp⟩:∃ p,p=e.pos:=⟨_,rfl⟩
 obtain ⟨c0,c1,c2,a,l,c,hcs⟩:∃ c0 c1 c2 a l c,cs=[.int .i64 c0,.int .i64 c1,.string c2,.slice a l c,.int .i64 p]:=by
  obtain ⟨k,nn,nm,xs,q⟩:=e
  unfold EV at he
  obtain ⟨a,cap,rfl,_,_⟩:=he
  exact ⟨_,_,_,_,_,_,by rw [hp];rfl⟩
 subst hcs
 obtain ⟨t,ht⟩:∃ t,t=(kindR r e env).1:=⟨_,rfl⟩
 obtain ⟨r2,hr2⟩:∃ r2,r2=(kindR r e env).2:=⟨_,rfl⟩
 have oA:=(Only.refl [] w).alloc (.cells #[.int .i64 c0,.int .i64 c1,.string c2,.slice a l c,.int .i64 p] 70)
 have hb:=heap_new w (.cells #[.int .i64 c0,.int .i64 c1,.string c2,.slice a l c,.int .i64 p] 70)
 have hnd:needR r e want env=if t≠want then r2.fail 10 p else r2:=by rw [ht,hr2,hp];rfl
 obtain ⟨RR,hRR⟩:∃ x,x=needR r e want env:=⟨_,rfl⟩
 rw [← hRR]
 have HND:=Lib.hid (hRR.trans hnd)
 have HR:=Lib.hid hr
 have HE:=Lib.hid he
 have HB:=Lib.hid hB
 have HVE:=Lib.hid hve
 have HOA:=Lib.hid oA
 have HBX:=Lib.hid hb
 have HT:=Lib.hid (And.intro ht hr2)
 have HK0:=Lib.hid K0
 clear hr he hs hB hve hp oA hb hnd hRR ht hr2 K0
 go_enter Try.func28,Try.ntmps28
 go_upto_region 1 with (fail)
 have oA:=HOA.out
 have hb:=HBX.out
 generalize w.alloc (.cells #[.int .i64 c0,.int .i64 c1,.string c2,.slice a l c,.int .i64 p] 70)=w1 at oA hb⊢
 have K1:=HK0.out w1 lo g v r _ B env ve (HR.out.quiet oA) (HE.out.kept oA (by simp) (fun _ h=>h)) HB.out (HVE.out.kept oA (by simp)) henv
 rw [← HT.out.1,← HT.out.2] at K1
 have b0:w1.cell? ⟨w.heap.size,0,none⟩=some (.int .i64 c0):=cell_at 0 hb
 have b1:w1.cell? ⟨w.heap.size,1,none⟩=some (.int .i64 c1):=cell_at 1 hb
 have b2:w1.cell? ⟨w.heap.size,2,none⟩=some (.string c2):=cell_at 2 hb
 have b3:w1.cell? ⟨w.heap.size,3,none⟩=some (.slice a l c):=cell_at 3 hb
 have b4:w1.cell? ⟨w.heap.size,4,none⟩=some (.int .i64 p):=cell_at 4 hb
 have HB1:=Lib.hid hb
 have HO1:=Lib.hid oA
 clear hb oA HBX HOA
 go_wp2_with fail
 refine K1.mono ?_
 rintro en w5 ⟨rfl,v5,hk5,ht5⟩
 have hb5:=ht5.heap (HR.out.quiet HO1.out) HB1.out (by decide) (by decide)
 have b4':w5.cell? ⟨w.heap.size,4,none⟩=some (.int .i64 p):=cell_at 4 hb5
 have HK5:=Lib.hid hk5
 have HT5:=Lib.hid ((RT.of_quiet HO1.out g v).trans ht5)
 clear hk5 ht5 hb5 K1 b0 b1 b2 b3 b4
 by_cases htw:t=want
 ·have h':(t != want)=false:=by simpa using htw
  have hx:RR=r2:=by rw [HND.out,if_neg (fun n=>n htw)]
  have HX:=Lib.hid hx
  clear htw hx
  go_wp2_with fail
  go_end0
  exact ⟨rfl,v5,by rw [HX.out];exact HK5.out,HT5.out⟩
 ·have h':(t != want)=true:=by simpa using htw
  have hx:RR=r2.fail 10 p:=by rw [HND.out,if_pos htw]
  have HX:=Lib.hid hx
  clear htw hx
  go_wp2_with fail
  refine (rfail_any HK5.out 10 p).mono ?_
  rintro en w6 ⟨rfl,hk6,ht6⟩
  have HK6:=Lib.hid hk6
  have HT6:=Lib.hid (HT5.out.trans ht6)
  clear hk6 ht6
  go_wp2_with fail
  go_end0
  exact ⟨rfl,v5,by rw [HX.out];exact HK6.out,HT6.out⟩
end
def CSzP (N:Nat):Prop:=∀ (e:E),sizeE e≤N→∀ (w:World) (cs:List Value) (B:Nat→Prop),EV w B e cs→Calls Try.prog 29 #[.agg cs.toArray] w fun en w'=>en=.returned (.int .i64 (sizeE e:Nat))∧Only [] w w'
set_option maxRecDepth 100000 in
set_option maxHeartbeats 4000000 in
theorem rsize_step (N:Nat) (hNN:N≤1000000) (IS:CSzP N):CSzP (N+1):=by
 intro e he w cs B hv
 obtain ⟨k,nn,nm,xs,p⟩:=e
 rw [sizeE_mk] at he
 unfold EV at hv
 obtain ⟨a,cap,rfl,hc,hx⟩:=hv
 have hxs:=EsV.of_parts hc hx
 obtain ⟨n,hn⟩:∃ n,n=xs.length:=⟨_,rfl⟩
 have hlen:=sizeL_len xs
 rw [← hn] at hxs hlen⊢
 obtain ⟨sn,hsn⟩:∃ sn,sn=strOf nm:=⟨_,rfl⟩
 rw [← hsn]
 obtain ⟨R,hR⟩:∃ R,R=sizeE (.mk k nn nm xs p):=⟨_,rfl⟩
 rw [← hR]
 rw [sizeE_mk] at hR
 have HX:=Lib.hid hxs
 have HN:=Lib.hid hn
 have HR:=Lib.hid hR
 have hnb:n≤1000000:=by omega
 clear hx hc hxs hn hsn hR
 go_enter Try.func29,Try.ntmps29
 go_upto_region 3 with (fail)
 have oA:=(Only.refl [] w).alloc (.cells #[.int .i64 k,.int .i64 nn,.string sn,.slice a n cap,.int .i64 p] 70)
 have hb:=heap_new w (.cells #[.int .i64 k,.int .i64 nn,.string sn,.slice a n cap,.int .i64 p] 70)
 generalize w.alloc (.cells #[.int .i64 k,.int .i64 nn,.string sn,.slice a n cap,.int .i64 p] 70)=w1 at oA hb⊢
 have HBX:=Lib.hid hb
 have HOA:=Lib.hid oA
 obtain ⟨gb,hgb⟩:∃ gb,gb=w.heap.size:=⟨_,rfl⟩
 rw [← hgb] at HBX⊢
 clear oA hb hgb
 go_loopw [3,4] (fun st ix wr=>∃ (j T:Nat),j≤n∧ix=.int .i64 (j:Int)∧st=.int .i64 (T:Int)∧Hid (T=1+sizeL (xs.take j))∧Hid (Only [] w wr)∧Hid (wr.heap[gb]?=some (.cells #[.int .i64 k,.int .i64 nn,.string sn,.slice a n cap,.int .i64 p] 70 (0,0)))) (fun _ ix _=>n - (intOf ix).toNat)
 case atStart=>exact ⟨0,1,Nat.zero_le _,rfl,rfl,Lib.hid (by simp [sizeL]),HOA,HBX⟩
 case round=>
  obtain ⟨j,T,hjn,rfl,rfl,HT,HO,HB⟩:=hrel
  have b3:wr.cell? ⟨gb,3,none⟩=some (.slice a n cap):=cell_at 3 HB.out
  by_cases hlt:j < n
  ·have hlt':(j:Int) < (n:Int):=by omega
   have j0:(0:Int)≤(j:Int):=by omega
   obtain ⟨-,gr,k',nn',nm',ys,p',a',c',rfl,he',x0,x1,x2,x3,x4,hv'⟩:=(HX.out.quiet HO.out).elem hlt
   have hT1:=sizeL_mem he'
   have hT2:=sizeL_take he'
   have hT3:=sizeL_take_le xs (j+1)
   obtain ⟨e',hee⟩:∃ e',e'=E.mk k' nn' nm' ys p':=⟨_,rfl⟩
   obtain ⟨sn',hsn'⟩:∃ s,s=strOf nm':=⟨_,rfl⟩
   obtain ⟨L,hL⟩:∃ L,L=ys.length:=⟨_,rfl⟩
   have hev:EV wr B e' [.int .i64 k',.int .i64 nn',.string sn',.slice a' L c',.int .i64 p']:=by rw [hee,hsn',hL];exact EV.mk' hv'
   rw [← hee] at hT1 hT2
   rw [← hsn'] at x2
   rw [← hL] at x3
   have K1:=IS e' (by omega) wr _ B hev
   obtain ⟨Y,hY⟩:∃ Y,Y=sizeE e':=⟨_,rfl⟩
   rw [← hY] at K1 hT2
   have hTT:1+sizeL (xs.take (j+1))=T+Y:=by rw [HT.out,hT2];omega
   have hb1:T+Y≤1000001:=by omega
   have HTT:=Lib.hid hTT
   clear hT1 hT2 hT3 hee hsn' hL hev hY hTT he' hv'
   go_wp2_with fail
   refine K1.mono ?_
   rintro en w6 ⟨rfl,ho6⟩
   have HO6:=Lib.hid (HO.out.trans ho6 (by simp))
   have HB6:=Lib.hid (ho6.heap HB.out (by simp))
   clear ho6 K1 x0 x1 x2 x3 x4 b3
   go_wp2_with fail
   go_roundw
   case rel=>exact ⟨j+1,T+Y,by omega,by go_num,by simp,Lib.hid HTT.out.symm,HO6,HB6⟩
   case measure=>simp [intOf];omega
  ·obtain rfl:j=n:=by omega
   have hge:¬ (j:Int) < (j:Int):=by omega
   have hT:T=R:=by rw [HT.out,HN.out,List.take_length,HR.out]
   have HTT:=Lib.hid hT
   clear hT
   go_wp2_with fail
   go_ret
   rw [← HTT.out]
   exact ⟨rfl,HO.out⟩
theorem rsize_all (N:Nat) (hN:N≤1000000):CSzP N:=by
 induction N with
 | zero=>exact fun e he=>by cases e;rw [sizeE_mk] at he;omega
 | succ N ih=>exact rsize_step N (by omega) (ih (by omega))
end Go.Proofs.Ytiaeagpepfmfgaa
namespace Go.Proofs.Ytiaeagpepfmfgaa
open Go.RowKit Go.Maps
set_option linter.unusedSimpArgs false
set_option linter.unusedVariables false
mutual
def stW:St→Int
 | .mk k _ xs n bd els _=>if k=6 then wrap64 (((1+sizeL xs:Nat):Int)+(if stWs 0 bd < stWs 0 els then stWs 0 els else stWs 0 bd))
  else if k=7∨k=8 then wrap64 (((1+sizeL xs:Nat):Int)+wrap64 (n*wrap64 (1+stWs 0 bd))) else ((1+sizeL xs:Nat):Int)
def stWs:Int→List St→Int
 | acc,[]=>acc
 | acc,x :: xs=>stWs (if 1073741824 < wrap64 (acc+stW x) then 1073741824 else wrap64 (acc+stW x)) xs
end
mutual
theorem stW_few:∀ x:St,sizeS x≤1000000→fewS x→stW x=(stN x:Nat)∧stN x≤70000000000
 | .mk k nm xs n bd els p,hs,hf=>by
  rw [sizeS_mk] at hs
  unfold fewS at hf
  obtain ⟨f1,f2,f3⟩:=hf
  have h1:=stWs_few bd 0 (by omega) (by omega) f2
  have h2:=stWs_few els 0 (by omega) (by omega) f3
  have l1:=stNs_le bd 0 (by omega)
  have l2:=stNs_le els 0 (by omega)
  have h1:stWs 0 bd=(stNs 0 bd:Nat):=h1
  have h2:stWs 0 els=(stNs 0 els:Nat):=h2
  unfold stW stN
  by_cases h6:k=6
  ·rw [if_pos h6,if_pos h6,h1,h2]
   have e:(if ((stNs 0 bd:Nat):Int) < ((stNs 0 els:Nat):Int) then ((stNs 0 els:Nat):Int) else ((stNs 0 bd:Nat):Int))=((max (stNs 0 bd) (stNs 0 els):Nat):Int):=by split<;>omega
   rw [e]
   refine ⟨?_,by omega⟩
   rw [wrap64_small (by omega) (by omega)]
   omega
  ·rw [if_neg h6,if_neg h6]
   by_cases h7:k=7∨k=8
   ·rw [if_pos h7,if_pos h7,h1]
    obtain ⟨n0,n1⟩:=f1 h7
    have hm:n.toNat*(1+stNs 0 bd)≤64*(1+1073741824):=Nat.mul_le_mul (by omega) (by omega)
    have e:n*(1+((stNs 0 bd:Nat):Int))=((n.toNat*(1+stNs 0 bd):Nat):Int):=by
     push_cast
     rw [show ((n.toNat:Nat):Int)=n by omega]
    refine ⟨?_,by omega⟩
    rw [wrap64_small (n:=1+((stNs 0 bd:Nat):Int)) (by omega) (by omega),e]
    generalize n.toNat*(1+stNs 0 bd)=M at hm
    rw [wrap64_small (n:=(M:Int)) (by omega) (by omega),wrap64_small (by omega) (by omega)]
    omega
   ·rw [if_neg h7,if_neg h7]
    exact ⟨by omega,by omega⟩
theorem stWs_few:∀ (xs:List St) (a:Nat),sizeSs xs≤1000000→a≤1073741824→fewB xs→stWs a xs=(stNs a xs:Nat)
 | [],a,_,_,_=>by unfold stWs stNs;rfl
 | x :: xs,a,hs,ha,hf=>by
  rw [sizeSs_cons] at hs
  unfold fewB at hf
  obtain ⟨h1,h2⟩:=stW_few x (by omega) hf.1
  unfold stWs stNs
  rw [h1,wrap64_small (by omega) (by omega)]
  have e:(if (1073741824:Int) < (a:Int)+((stN x:Nat):Int) then (1073741824:Int) else (a:Int)+((stN x:Nat):Int))=((min (a+stN x) 1073741824:Nat):Int):=by split<;>omega
  rw [e]
  exact stWs_few xs _ (by omega) (by omega) hf.2
end
theorem stWs_drop {acc:Int} {xs:List St} {j:Nat} {e:St} (hj:xs[j]?=some e):stWs acc (xs.drop j)=stWs (if 1073741824 < wrap64 (acc+stW e) then 1073741824 else wrap64 (acc+stW e)) (xs.drop (j+1)):=by
 obtain ⟨hlt,rfl⟩:=List.getElem?_eq_some_iff.1 hj
 rw [List.drop_eq_getElem_cons hlt]
 conv=>lhs;unfold stWs
def CStwP (N:Nat):Prop:=∀ (xs:List St),sizeSs xs≤N→∀ (w:World) (v:Value) (B:Nat→Prop),SsV w B v xs→Calls Try.prog 27 #[v] w fun en w'=>en=.returned (.int .i64 (stWs 0 xs))∧Only [] w w'
set_option maxRecDepth 100000 in
set_option maxHeartbeats 16000000 in
theorem rsteps_step (N:Nat) (hNN:N≤1000000) (IS:∀ M,M < N→CStwP M):CStwP N:=by
 intro xs hN w v B hv
 obtain ⟨a,cap,rfl,-⟩:=id hv
 have hlen:=sizeSs_len xs
 obtain ⟨n,hn⟩:∃ n,n=xs.length:=⟨_,rfl⟩
 rw [← hn] at hlen hv⊢
 have HV:=Lib.hid hv
 have HN:=Lib.hid hn
 have hnb:n≤1000000:=by omega
 obtain ⟨R,hR⟩:∃ R,R=stWs 0 xs:=⟨_,rfl⟩
 rw [← hR]
 have HR:=Lib.hid hR
 clear hv hn hR
 go_enter Try.func27,Try.ntmps27
 go_wp2_with fail
 go_loopg [3,4] n (fun gk st ix wr=>∃ (j:Nat) (T:Int),j≤n∧j+gk=n∧ix=.int .i64 (j:Int)∧st=.int .i64 T∧Hid (R=stWs T (xs.drop j))∧Hid (Only [] w wr))
 case atStart=>exact ⟨0,0,Nat.zero_le _,by omega,rfl,rfl,Lib.hid (by rw [HR.out,List.drop_zero]),Lib.hid (Only.refl _ _)⟩
 case round=>
  obtain ⟨j,T,hjn,hjg,rfl,rfl,HT,HO⟩:=hrel
  by_cases hlt:j < n
  ·have hlt':(j:Int) < (n:Int):=by omega
   have j0:(0:Int)≤(j:Int):=by omega
   obtain ⟨-,gr,k,nm,ys,nn,bd,els,p,a0,c0,a1,c1,a2,c2,rfl,he,x0,x1,x2,x3,x4,x5,x6,hv0,hv1,hv2⟩:=(HV.out.quiet HO.out).elem hlt
   have hT1:=sizeSs_mem he
   rw [sizeS_mk] at hT1
   have hT:=HT.out
   rw [stWs_drop he] at hT
   obtain ⟨Y,hY⟩:∃ Y,Y=stW (.mk k nm ys nn bd els p):=⟨_,rfl⟩
   rw [← hY] at hT
   unfold stW at hY
   have I1:=IS _ (show sizeSs bd < N by omega) bd (Nat.le_refl _)
   have I2:=IS _ (show sizeSs els < N by omega) els (Nat.le_refl _)
   obtain ⟨L0,hL0⟩:∃ L,L=ys.length:=⟨_,rfl⟩
   obtain ⟨L1,hL1⟩:∃ L,L=bd.length:=⟨_,rfl⟩
   obtain ⟨L2,hL2⟩:∃ L,L=els.length:=⟨_,rfl⟩
   obtain ⟨sn,hsn⟩:∃ sn,sn=strOf nm:=⟨_,rfl⟩
   have hl0:=sizeL_len ys
   rw [← hL0] at x2 hv0 hl0
   rw [← hL1] at x4 hv1
   rw [← hL2] at x5 hv2
   rw [← hsn] at x1
   obtain ⟨S1,hS1⟩:∃ S,S=stWs 0 bd:=⟨_,rfl⟩
   obtain ⟨S2,hS2⟩:∃ S,S=stWs 0 els:=⟨_,rfl⟩
   rw [← hS1] at hY I1
   rw [← hS2] at hY I2
   have HV0:=Lib.hid hv0
   have HV1:=Lib.hid hv1
   have HV2:=Lib.hid hv2
   have HI1:=Lib.hid I1
   have HI2:=Lib.hid I2
   have HT2:=Lib.hid hT
   have HY:=Lib.hid hY
   have HL0:=Lib.hid hL0
   have hyl:sizeL ys≤1000000:=by omega
   clear he hT hL0 hL1 hL2 hsn hv0 hv1 hv2 hT1 hlen hN I1 I2 hY hS1 hS2
   go_upto_region 8 with (fail)
   have oA:=(Only.refl [] wr).alloc (.cells #[.int .i64 k,.string sn,.slice a0 L0 c0,.int .i64 nn,.slice a1 L1 c1,.slice a2 L2 c2,.int .i64 p] 102)
   have hb:=heap_new wr (.cells #[.int .i64 k,.string sn,.slice a0 L0 c0,.int .i64 nn,.slice a1 L1 c1,.slice a2 L2 c2,.int .i64 p] 102)
   generalize wr.alloc (.cells #[.int .i64 k,.string sn,.slice a0 L0 c0,.int .i64 nn,.slice a1 L1 c1,.slice a2 L2 c2,.int .i64 p] 102)=w1 at oA hb⊢
   obtain ⟨gb,hgb⟩:∃ gb,gb=wr.heap.size:=⟨_,rfl⟩
   rw [← hgb] at hb⊢
   have HB1:=Lib.hid hb
   have HO1:=Lib.hid (HO.out.trans oA (by simp))
   have HVa:=Lib.hid (HV0.out.quiet oA)
   have HVb:=Lib.hid (HV1.out.quiet oA)
   have HVc:=Lib.hid (HV2.out.quiet oA)
   clear oA hb hgb x0 x1 x2 x3 x4 x5 x6 HV0 HV1 HV2
   obtain ⟨wo,hwo⟩:∃ wo:World,wo=w1:=⟨_,rfl⟩
   go_loopg [6,7] L0 (fun g2 st ix wq=>∃ (i K:Nat),i≤L0∧i+g2=L0∧ix=.int .i64 (i:Int)∧st=.int .i64 (K:Int)∧Hid (K=1+sizeL (ys.take i))∧Hid (Only [] wo wq))
   case atStart=>exact ⟨0,1,Nat.zero_le _,by omega,rfl,rfl,Lib.hid (by simp [sizeL]),Lib.hid (by rw [hwo];exact Only.refl _ _)⟩
   case round=>
    obtain ⟨i,K,hin,hig,rfl,rfl,HK,HOi⟩:=hrel
    subst hwo
    have hb:=HOi.out.heap HB1.out (by simp)
    have y2:wr.cell? ⟨gb,2,none⟩=some (.slice a0 L0 c0):=cell_at 2 hb
    by_cases hil:i < L0
    ·have hil':(i:Int) < (L0:Int):=by omega
     have i0:(0:Int)≤(i:Int):=by omega
     obtain ⟨-,gq,k',nn',nm',zs,p',a',c',rfl,he',x0,x1,x2,x3,x4,hv'⟩:=(HVa.out.quiet HOi.out).elem hil
     have hT1:=sizeL_mem he'
     have hT2:=sizeL_take he'
     have hT3:=sizeL_take_le ys (i+1)
     obtain ⟨e',hee⟩:∃ e',e'=E.mk k' nn' nm' zs p':=⟨_,rfl⟩
     obtain ⟨sn',hsn'⟩:∃ s,s=strOf nm':=⟨_,rfl⟩
     obtain ⟨L,hL⟩:∃ L,L=zs.length:=⟨_,rfl⟩
     have hev:EV wr B e' [.int .i64 k',.int .i64 nn',.string sn',.slice a' L c',.int .i64 p']:=by rw [hee,hsn',hL];exact EV.mk' hv'
     rw [← hee] at hT1 hT2
     rw [← hsn'] at x2
     rw [← hL] at x3
     have K1:=rsize_all 1000000 (Nat.le_refl _) e' (by omega) wr _ B hev
     obtain ⟨Z,hZ⟩:∃ Z,Z=sizeE e':=⟨_,rfl⟩
     rw [← hZ] at K1 hT2
     have hTT:1+sizeL (ys.take (i+1))=K+Z:=by rw [HK.out,hT2];omega
     have hb1:K+Z≤1000001:=by omega
     have HTT:=Lib.hid hTT
     clear hT1 hT2 hT3 hee hsn' hL hev hZ hTT he' hv' hb
     go_wp2_with fail
     refine K1.mono ?_
     rintro en w6 ⟨rfl,ho6⟩
     have HO6:=Lib.hid (HOi.out.trans ho6 (by simp))
     clear ho6 K1 x0 x1 x2 x3 x4 y2
     go_wp2_with fail
     go_roundg (L0 - (i+1))
     case measure=>omega
     case rel=>exact ⟨i+1,K+Z,by omega,by omega,by go_num,by simp,Lib.hid HTT.out.symm,HO6⟩
    ·obtain rfl:i=L0:=by omega
     have hil':¬ (i:Int) < (i:Int):=by omega
     have hK:K=1+sizeL ys:=by rw [HK.out,HL0.out,List.take_length]
     have hKb:K≤1000001:=by omega
     have y0:wr.cell? ⟨gb,0,none⟩=some (.int .i64 k):=cell_at 0 hb
     have y3:wr.cell? ⟨gb,3,none⟩=some (.int .i64 nn):=cell_at 3 hb
     have y4:wr.cell? ⟨gb,4,none⟩=some (.slice a1 L1 c1):=cell_at 4 hb
     have y5:wr.cell? ⟨gb,5,none⟩=some (.slice a2 L2 c2):=cell_at 5 hb
     have hY:=HY.out
     rw [← hK] at hY
     have HBW:=Lib.hid hb
     have HOW:=Lib.hid (HO1.out.trans HOi.out (by simp))
     have HVb2:=Lib.hid (HVb.out.quiet HOi.out)
     have HVc2:=Lib.hid (HVc.out.quiet HOi.out)
     clear hb hK HVa HVb HVc HO1 HOi HK HL0 HY HB1 hil
     by_cases h6:k=6
     ·subst h6
      rw [if_pos rfl] at hY
      have HY2:=Lib.hid hY
      have K1:=HI1.out wr _ B HVb2.out
      clear hY
      go_wp2_with fail
      refine K1.mono ?_
      rintro en w6 ⟨rfl,ho6⟩
      have y0':=cell_kept ho6 y0 (by simp)
      have y5':=cell_kept ho6 y5 (by simp)
      have K2:=HI2.out w6 _ B (HVc2.out.quiet ho6)
      have HO6:=Lib.hid (HOW.out.trans ho6 (by simp))
      clear K1 ho6 y0 y2 y3 y4 y5
      go_wp2_with fail
      refine K2.mono ?_
      rintro en w7 ⟨rfl,ho7⟩
      have y0:=cell_kept ho7 y0' (by simp)
      have HO7:=Lib.hid (HO6.out.trans ho7 (by simp))
      clear K2 ho7 y0' y5'
      by_cases hs12:S1 < S2
      ·have hYY:Y=wrap64 ((K:Int)+S2):=by rw [HY2.out,if_pos hs12]
       have HYY:=Lib.hid hYY
       clear hYY
       go_upto_region 19 with (fail)
       rw [← HYY.out]
       have HOF:=HO7
       obtain ⟨T2,hT2⟩:∃ T2,T2=wrap64 (T+Y):=⟨_,rfl⟩
       have HTE:=Lib.hid hT2
       have hRT:=HT2.out
       rw [← hT2] at hRT
       clear hT2
       by_cases hbig:1073741824 < T2
       ·rw [if_pos hbig] at hRT
        have HRT:=Lib.hid hRT
        clear hRT
        go_upto_region 20 with (fail)
        rw [← HTE.out]
        go_wp2_with fail
        go_roundg (n - (j+1))
        case measure=>omega
        case rel=>exact ⟨j+1,1073741824,by omega,by omega,by go_num,rfl,HRT,HOF⟩
       ·rw [if_neg hbig] at hRT
        have HRT:=Lib.hid hRT
        clear hRT
        go_upto_region 20 with (fail)
        rw [← HTE.out]
        go_wp2_with fail
        go_roundg (n - (j+1))
        case measure=>omega
        case rel=>exact ⟨j+1,T2,by omega,by omega,by go_num,rfl,HRT,HOF⟩
      ·have hYY:Y=wrap64 ((K:Int)+S1):=by rw [HY2.out,if_neg hs12]
       have HYY:=Lib.hid hYY
       clear hYY
       go_upto_region 19 with (fail)
       rw [← HYY.out]
       have HOF:=HO7
       obtain ⟨T2,hT2⟩:∃ T2,T2=wrap64 (T+Y):=⟨_,rfl⟩
       have HTE:=Lib.hid hT2
       have hRT:=HT2.out
       rw [← hT2] at hRT
       clear hT2
       by_cases hbig:1073741824 < T2
       ·rw [if_pos hbig] at hRT
        have HRT:=Lib.hid hRT
        clear hRT
        go_upto_region 20 with (fail)
        rw [← HTE.out]
        go_wp2_with fail
        go_roundg (n - (j+1))
        case measure=>omega
        case rel=>exact ⟨j+1,1073741824,by omega,by omega,by go_num,rfl,HRT,HOF⟩
       ·rw [if_neg hbig] at hRT
        have HRT:=Lib.hid hRT
        clear hRT
        go_upto_region 20 with (fail)
        rw [← HTE.out]
        go_wp2_with fail
        go_roundg (n - (j+1))
        case measure=>omega
        case rel=>exact ⟨j+1,T2,by omega,by omega,by go_num,rfl,HRT,HOF⟩
     ·rw [if_neg h6] at hY
      have h6':(k == 6)=false:=by simpa using h6
      by_cases h78:k=7∨k=8
      ·rw [if_pos h78] at hY
       have HY2:=Lib.hid hY
       clear hY h6
       rcases h78 with h7 | h7<;>
       ·subst h7
        go_upto_region 18 with (fail)
        have oD:Only [] wr wr.drew:=(Only.refl [] wr).drew
        refine wp_region_held_drew (S:=fun w'=>w'.cell? ⟨gb,3,none⟩=some (.int .i64 nn)∧w'.cell? ⟨gb,4,none⟩=some (.slice a1 L1 c1)) (by kernel_rfl) ⟨cell_kept oD y3 (by simp),cell_kept oD y4 (by simp)⟩ (fun hH=>?_)
        have HO9:=Lib.hid (HOW.out.trans oD (by simp))
        have HBD:=Lib.hid (oD.heap HBW.out (by simp))
        have HVD:=Lib.hid (HVb2.out.quiet oD)
        clear oD y0 y2 y3 y4 y5
        generalize wr.drew=wd at HO9 HBD HVD hH⊢
        refine take_list (i:=0) (v:=?_) rfl (by kernel_rfl) (by kernel_rfl) (by kernel_rfl) (fun _ _ _ h=>h) (Or.inl ⟨by rfl,?_⟩) hH ?_
        rotate_left
        ·((intro w hSw;(try dsimp only at hSw);go_simp);try with_reducible rfl)
        simp only [Act.put,List.setIfInBounds_toArray,List.set_cons_zero,List.set_cons_succ]
        refine take_list (i:=1) (v:=?_) rfl (by kernel_rfl) (by kernel_rfl) (by kernel_rfl) (fun _ _ _ h=>h) (Or.inl ⟨by rfl,?_⟩) hH ?_
        rotate_left
        ·((intro w hSw;(try dsimp only at hSw);go_simp);try with_reducible rfl)
        simp only [Act.put,List.setIfInBounds_toArray,List.set_cons_zero,List.set_cons_succ]
        refine take_list (i:=2) (v:=?_) rfl (by kernel_rfl) (by kernel_rfl) (by kernel_rfl) (fun _ _ _ h=>h) (Or.inl ⟨by rfl,?_⟩) hH ?_
        rotate_left
        ·((intro w hSw;(try dsimp only at hSw);go_simp);try with_reducible rfl)
        simp only [Act.put,List.setIfInBounds_toArray,List.set_cons_zero,List.set_cons_succ]
        refine take_list (i:=3) (v:=?_) rfl (by kernel_rfl) (by kernel_rfl) (by kernel_rfl) (fun _ _ _ h=>h) (Or.inl ⟨by rfl,?_⟩) hH ?_
        rotate_left
        ·((intro w hSw;(try dsimp only at hSw);go_simp);try with_reducible rfl)
        simp only [Act.put,List.setIfInBounds_toArray,List.set_cons_zero,List.set_cons_succ]
        refine take_list (i:=4) (v:=?_) rfl (by kernel_rfl) (by kernel_rfl) (by kernel_rfl) (fun _ _ _ h=>h) (Or.inl ⟨by rfl,?_⟩) hH ?_
        rotate_left
        ·((intro w hSw;(try dsimp only at hSw);go_simp);try with_reducible rfl)
        simp only [Act.put,List.setIfInBounds_toArray,List.set_cons_zero,List.set_cons_succ]
        refine wpAnyH_ready (rs:=[5]) (by kernel_rfl) (by simp) ?_
        refine ready_list rfl (fun K hK=>?_)
        go_simp
        refine (HI1.out wd _ B HVD.out).mono ?_
        rintro en w7 ⟨rfl,ho7⟩
        have HO7:=Lib.hid (HO9.out.trans ho7 (by simp))
        have hbz:=ho7.heap HBD.out (by simp)
        refine hK.out _ _ ⟨cell_at 3 hbz,cell_at 4 hbz⟩ (fun hH=>?_)
        clear hK K ho7 hbz
        refine take_list (i:=6) (v:=?_) rfl (by kernel_rfl) (by kernel_rfl) (by kernel_rfl) (fun _ _ _ h=>h) (Or.inl ⟨by rfl,?_⟩) hH ?_
        rotate_left
        ·((intro w hSw;(try dsimp only at hSw);go_simp);try with_reducible rfl)
        simp only [Act.put,List.setIfInBounds_toArray,List.set_cons_zero,List.set_cons_succ]
        refine take_list (i:=7) (v:=?_) rfl (by kernel_rfl) (by kernel_rfl) (by kernel_rfl) (fun _ _ _ h=>h) (Or.inl ⟨by rfl,?_⟩) hH ?_
        rotate_left
        ·((intro w hSw;(try dsimp only at hSw);go_simp);try with_reducible rfl)
        simp only [Act.put,List.setIfInBounds_toArray,List.set_cons_zero,List.set_cons_succ]
        refine take_list (i:=8) (v:=?_) rfl (by kernel_rfl) (by kernel_rfl) (by kernel_rfl) (fun _ _ _ h=>h) (Or.inl ⟨by rfl,?_⟩) hH ?_
        rotate_left
        ·((intro w hSw;(try dsimp only at hSw);go_simp);try with_reducible rfl)
        simp only [Act.put,List.setIfInBounds_toArray,List.set_cons_zero,List.set_cons_succ]
        refine take_list (i:=9) (v:=?_) rfl (by kernel_rfl) (by kernel_rfl) (by kernel_rfl) (fun _ _ _ h=>h) (Or.inl ⟨by rfl,?_⟩) hH ?_
        rotate_left
        ·((intro w hSw;(try dsimp only at hSw);go_simp);try with_reducible rfl)
        simp only [Act.put,List.setIfInBounds_toArray,List.set_cons_zero,List.set_cons_succ]
        refine wpAnyH_done (by kernel_rfl) ?_ _
        have hYY:Y=IntKind.i64.wrap (((K:Nat):Int)+IntKind.i64.wrap (nn*IntKind.i64.wrap (1+S1))):=by rw [HY2.out,IntWalk.i64_left,IntWalk.i64_left,IntWalk.i64_left]
        have HYY:=Lib.hid hYY
        clear hH hYY
        go_upto_region 19 with (fail)
        rw [← HYY.out]
        have HOF:=HO7
        obtain ⟨T2,hT2⟩:∃ T2,T2=wrap64 (T+Y):=⟨_,rfl⟩
        have HTE:=Lib.hid hT2
        have hRT:=HT2.out
        rw [← hT2] at hRT
        clear hT2
        by_cases hbig:1073741824 < T2
        ·rw [if_pos hbig] at hRT
         have HRT:=Lib.hid hRT
         clear hRT
         go_upto_region 20 with (fail)
         rw [← HTE.out]
         go_wp2_with fail
         go_roundg (n - (j+1))
         case measure=>omega
         case rel=>exact ⟨j+1,1073741824,by omega,by omega,by go_num,rfl,HRT,HOF⟩
        ·rw [if_neg hbig] at hRT
         have HRT:=Lib.hid hRT
         clear hRT
         go_upto_region 20 with (fail)
         rw [← HTE.out]
         go_wp2_with fail
         go_roundg (n - (j+1))
         case measure=>omega
         case rel=>exact ⟨j+1,T2,by omega,by omega,by go_num,rfl,HRT,HOF⟩
      ·rw [if_neg h78] at hY
       have h7':(k == 7)=false:=by simp only [beq_eq_false_iff_ne];exact fun e=>h78 (.inl e)
       have h8':(k == 8)=false:=by simp only [beq_eq_false_iff_ne];exact fun e=>h78 (.inr e)
       have HYY:=Lib.hid hY
       clear hY h6 h78
       go_upto_region 19 with (fail)
       rw [← HYY.out]
       have HOF:=HOW
       obtain ⟨T2,hT2⟩:∃ T2,T2=wrap64 (T+Y):=⟨_,rfl⟩
       have HTE:=Lib.hid hT2
       have hRT:=HT2.out
       rw [← hT2] at hRT
       clear hT2
       by_cases hbig:1073741824 < T2
       ·rw [if_pos hbig] at hRT
        have HRT:=Lib.hid hRT
        clear hRT
        go_upto_region 20 with (fail)
        rw [← HTE.out]
        go_wp2_with fail
        go_roundg (n - (j+1))
        case measure=>omega
        case rel=>exact ⟨j+1,1073741824,by omega,by omega,by go_num,rfl,HRT,HOF⟩
       ·rw [if_neg hbig] at hRT
        have HRT:=Lib.hid hRT
        clear hRT
        go_upto_region 20 with (fail)
        rw [← HTE.out]
        go_wp2_with fail
        go_roundg (n - (j+1))
        case measure=>omega
        case rel=>exact ⟨j+1,T2,by omega,by omega,by go_num,rfl,HRT,HOF⟩
  ·obtain rfl:j=n:=by omega
   have hT:R=T:=by rw [HT.out,HN.out,List.drop_length];unfold stWs;rfl
   have HTT:=Lib.hid hT
   clear hT
   go_wp2_with fail
   go_ret
   rw [HTT.out]
   exact ⟨rfl,HO.out⟩
theorem rsteps_all (N:Nat) (hN:N≤1000000):CStwP N:=by
 induction N using Nat.strongRecOn with
 | _ N ih=>exact rsteps_step N hN (fun M hM=>ih M hM (by omega))
end Go.Proofs.Ytiaeagpepfmfgaa
namespace Go.Proofs.Ytiaeagpepfmfgaa
open Go.RowKit Go.Maps
set_option linter.unusedSimpArgs false
set_option linter.unusedVariables false
structure BI (w wr:World) (lo g:Nat) (v vj:Value) (rj:RS) (ve:Value) (env:Env):Prop where
 k:RK wr lo g vj rj
 t:RT w wr g v vj
 e:OKn wr ve env
 o:∀ q,ve.ownBlock=some q→w.heap.size≤q
section
variable {w wr w2:World} {lo g:Nat} {v vj v2:Value} {rj r2:RS} {ve ve2:Value} {env env2:Env} {B:Nat→Prop}
theorem BI.quiet (h:BI w wr lo g v vj rj ve env) (ho:Only [] wr w2):BI w w2 lo g v vj rj ve env:=⟨h.k.quiet ho,h.t.quiet ho,h.e.kept ho (by simp),h.o⟩
theorem BI.state (h:BI w wr lo g v vj rj ve env) (hk:RK w2 lo g v2 r2) (ht:RT wr w2 g vj v2):BI w w2 lo g v v2 r2 ve env:=⟨hk,h.t.trans ht,h.e.rt h.k ht,h.o⟩
theorem BI.grow (h:BI w wr lo g v vj rj ve env) (he:OKn w2 ve2 env2) (hx:Ext wr ve w2 ve2):BI w w2 lo g v vj rj ve2 env2:=
 ⟨h.k.ext h.e hx,h.t.own hx.only (fun q hq=>h.o q (by simpa using hq)),he,fun q hq=>(hx.src q hq).elim (h.o q) (fun e=>Nat.le_trans h.t.only.size e)⟩
theorem kept_ss {l:List St} {x:Value} (h:SsV wr B x l) (hr:RK wr lo g vj rj) (hB:∀ k,B k→k < lo) (ht:RT wr w2 g vj v2):SsV w2 B x l:=h.kept ht.only (fun q hq hb=>hr.below q hq (hB q hb)) (fun _ h=>h)
theorem kept_es {l:List E} {x:Value} (h:EsV wr B x l) (hr:RK wr lo g vj rj) (hB:∀ k,B k→k < lo) (ht:RT wr w2 g vj v2):EsV w2 B x l:=h.kept ht.only (fun q hq hb=>hr.below q hq (hB q hb)) (fun _ h=>h)
theorem BI.kept_ss {l:List St} {x:Value} (b:BI w wr lo g v vj rj ve env) (hlo:lo≤w.heap.size) (hB:∀ k,B k→k < lo) (h:SsV wr B x l) (hx:Ext wr ve w2 ve2):SsV w2 B x l:=
 h.kept hx.only (fun q hq hb=>by have:=b.o q (by simpa using hq);have:=hB q hb;omega) (fun _ h=>h)
theorem BI.kept_box {k:Nat} {cs:Array Value} {t:TypeId} {fr:Nat×Nat} (b:BI w wr lo g v vj rj ve env) (hx:Ext wr ve w2 ve2) (hk:wr.heap[k]?=some (.cells cs t fr)) (ht:t≠85):w2.heap[k]?=some (.cells cs t fr):=
 hx.only.heap hk (fun e=>ht (b.e.ty (by simpa using e) hk))
end
theorem blockD_drop {r:RS} {env:Env} {xs:List St} {j:Nat} {e:St} (hj:xs[j]?=some e):blockD r (xs.drop j) env=blockD (stmtD r e env).1 (xs.drop (j+1)) (stmtD r e env).2:=by
 obtain ⟨hlt,rfl⟩:=List.getElem?_eq_some_iff.1 hj
 rw [List.drop_eq_getElem_cons hlt]
 conv=>lhs;unfold blockD
theorem sizeSs_drop {xs:List St} {j:Nat} {e:St} (hj:xs[j]?=some e):sizeSs (xs.drop j)=sizeS e+sizeSs (xs.drop (j+1)):=by
 obtain ⟨hlt,rfl⟩:=List.getElem?_eq_some_iff.1 hj
 rw [List.drop_eq_getElem_cons hlt,sizeSs_cons]
def BlkRes (w:World) (lo g:Nat) (v:Value) (x:RS×Env) (en:Ending) (w':World):Prop:=∃ ve' v',en=.returned ve'∧BI w w' lo g v v' x.1 ve' x.2
def CBlkP (N:Nat):Prop:=∀ (xs:List St),sizeSs xs≤N→∀ (w:World) (lo g:Nat) (v:Value) (r:RS) (vs:Value) (B:Nat→Prop) (env:Env) (ve:Value),RK w lo g v r→wB xs→SsV w B vs xs→(∀ k,B k→k < lo)→OKn w ve env→env.length+sizeSs xs≤1000000→
 Calls Try.prog 30 #[.pointer (some ⟨g,0,none⟩),vs,ve] w (BlkRes w lo g v (blockD r xs env))
set_option maxRecDepth 100000 in
set_option maxHeartbeats 32000000 in
theorem dblock_step (N:Nat) (hNN:N≤1000000) (IS:∀ M,M < N→CBlkP M):CBlkP N:=by
 intro xs hN w lo g v r vs B env ve hr hw hv hB hve hel
 obtain ⟨a,cap,rfl,-⟩:=id hv
 obtain ⟨ea,ec,rfl⟩:=hve.shape
 obtain ⟨n,hn⟩:∃ n,n=xs.length:=⟨_,rfl⟩
 obtain ⟨m,hm⟩:∃ m,m=env.length:=⟨_,rfl⟩
 have hlen:=sizeSs_len xs
 rw [← hn] at hlen hv⊢
 rw [← hm] at hve⊢
 obtain ⟨X,hX⟩:∃ X,X=blockD r xs env:=⟨_,rfl⟩
 rw [← hX]
 have HX:=Lib.hid hX
 have HK:=Lib.hid hr
 have HW:=Lib.hid hw
 have HV:=Lib.hid hv
 have HB:=Lib.hid hB
 have HE:=Lib.hid hve
 have HN:=Lib.hid hn
 have HM:=Lib.hid hm
 have HEL:=Lib.hid hel
 have hlo:lo≤w.heap.size:=Nat.le_of_lt (Nat.lt_of_le_of_lt hr.lo_le hr.g_lt)
 have HLO:=Lib.hid hlo
 have hnb:n≤1000000:=by omega
 have hmb:m≤1000000:=by omega
 clear hX hr hw hv hB hve hn hm hel hlo
 go_enter Try.func30,Try.ntmps30
 go_upto_region 1 with (fail)
 go_wp2_with (refine wpList_append_kns rfl (.tmp 10) (.tmp 11) rfl (.slice (some ⟨w.heap.size,0,none⟩) 0 0) (.slice ea m ec) [] env (by rfl) (OKn.empty w) (by rfl) (HE.out.kept ((Only.refl [] w).alloc (.cells #[] 85)) (by simp)) (by rw [← HM.out];simp;omega) ?_;intro a3 c3 w3 h3 x3;have H3:=Lib.hid (And.intro h3 x3);clear h3 x3)
 obtain ⟨h3,x3⟩:=H3.out
 have oE:Only [] w (w.alloc (.cells #[] 85)):=(Only.refl [] w).alloc _
 have sE:(w.alloc (.cells #[] 85)).heap.size=w.heap.size+1:=Array.size_push _
 have o3:Only [] w w3:=oE.trans x3.only (fun q hq=>.inr (by
  have:=hq
  simp [Value.ownBlock] at this
  omega))
 have hbi:BI w w3 lo g v v r (.slice a3 (0+m) c3) env:=⟨HK.out.quiet o3,RT.of_quiet o3 g v,by simpa [← HM.out] using h3,fun q hq=>by
  rcases x3.src q (by simpa [← HM.out] using hq) with e | e
  ·have:=e
   simp [Value.ownBlock] at this
   omega
  ·omega⟩
 have HBI:=Lib.hid hbi
 have HVo:=Lib.hid (HV.out.quiet o3)
 clear h3 x3 H3 oE sE o3 hbi
 go_loopw [2,7] (fun ev ix wr=>∃ (j:Nat) (vj:Value) (rj:RS) (ej:Env),j≤n∧ix=.int .i64 (j:Int)∧Hid (BI w wr lo g v vj rj ev ej)∧Hid (X=blockD rj (xs.drop j) ej)∧Hid (SsV wr B (.slice a n cap) xs)∧ej.length+sizeSs (xs.drop j)≤1000000) (fun _ ix _=>n - (intOf ix).toNat)
 case atStart=>exact ⟨0,v,r,env,Nat.zero_le _,rfl,by first | exact HBI | (exact Lib.hid (by simpa using HBI.out)) | (exact Lib.hid (by simpa [← HM.out] using HBI.out)),Lib.hid (by rw [HX.out,List.drop_zero]),HVo,by rw [List.drop_zero];exact HEL.out⟩
 case round=>
  obtain ⟨j,vj,rj,ej,hjn,rfl,HI,HXj,HVj,hejl⟩:=hrel
  obtain ⟨ua,uc,rfl⟩:=HI.out.e.shape
  by_cases hlt:j < n
  ·have hlt':(j:Int) < (n:Int):=by omega
   have j0:(0:Int)≤(j:Int):=by omega
   obtain ⟨-,gr,k,nm,ys,nn,bd,els,p,a0,c0,a1,c1,a2,c2,rfl,he,x0,x1,x2,x3,x4,x5,x6,hv0,hv1,hv2⟩:=HVj.out.elem hlt
   have hT1:=sizeSs_mem he
   have hdrop:=sizeSs_drop he
   rw [hdrop] at hejl
   rw [sizeS_mk] at hT1 hejl
   have hwe:=wB_mem HW.out he
   unfold wS at hwe
   obtain ⟨hks,-,hwx,hwb,hwel⟩:=hwe
   have hXj:=HXj.out
   rw [blockD_drop he] at hXj
   obtain ⟨XR,hXR⟩:∃ XR,XR=stmtD rj (.mk k nm ys nn bd els p) ej:=⟨_,rfl⟩
   rw [← hXR] at hXj
   unfold stmtD at hXR
   obtain ⟨L0,hL0⟩:∃ L,L=ys.length:=⟨_,rfl⟩
   obtain ⟨L1,hL1⟩:∃ L,L=bd.length:=⟨_,rfl⟩
   obtain ⟨L2,hL2⟩:∃ L,L=els.length:=⟨_,rfl⟩
   obtain ⟨sn,hsn⟩:∃ sn,sn=strOf nm:=⟨_,rfl⟩
   rw [← hL0] at x2 hv0 hks
   rw [← hL1] at x4 hv1
   rw [← hL2] at x5 hv2
   rw [← hsn] at x1
   have HXJ:=Lib.hid hXj
   have HXR:=Lib.hid hXR
   have HSN:=Lib.hid hsn
   have HL0:=Lib.hid hL0
   have HWX:=Lib.hid hwx
   have HWB:=Lib.hid hwb
   have HWE:=Lib.hid hwel
   have HV0:=Lib.hid hv0
   have HV1:=Lib.hid hv1
   have HV2:=Lib.hid hv2
   have HKS:=Lib.hid hks
   have hsz0:sizeL ys≤1000000:=by omega
   have hsz1:sizeSs bd < N:=by omega
   have hsz2:sizeSs els < N:=by omega
   have hej1:ej.length+1+sizeSs bd≤1000000:=by omega
   have hej2:ej.length+1+sizeSs els≤1000000:=by omega
   have hej3:ej.length+1+sizeSs (xs.drop (j+1))≤1000000:=by omega
   clear he hT1 hdrop hejl hXj hXR hL0 hL1 hL2 hsn hv0 hv1 hv2 hks hwx hwb hwel HXj
   go_upto_region 6 with (fail)
   have oA:=(Only.refl [] wr).alloc (.cells #[.int .i64 k,.string sn,.slice a0 L0 c0,.int .i64 nn,.slice a1 L1 c1,.slice a2 L2 c2,.int .i64 p] 102)
   have hb:=heap_new wr (.cells #[.int .i64 k,.string sn,.slice a0 L0 c0,.int .i64 nn,.slice a1 L1 c1,.slice a2 L2 c2,.int .i64 p] 102)
   generalize wr.alloc (.cells #[.int .i64 k,.string sn,.slice a0 L0 c0,.int .i64 nn,.slice a1 L1 c1,.slice a2 L2 c2,.int .i64 p] 102)=w1 at oA hb⊢
   obtain ⟨gb,hgb⟩:∃ gb,gb=wr.heap.size:=⟨_,rfl⟩
   rw [← hgb] at hb⊢
   replace HI:=Lib.hid (HI.out.quiet oA)
   replace HVj:=Lib.hid (HVj.out.quiet oA)
   replace HV0:=Lib.hid (HV0.out.quiet oA)
   replace HV1:=Lib.hid (HV1.out.quiet oA)
   replace HV2:=Lib.hid (HV2.out.quiet oA)
   have HBX:=Lib.hid hb
   have y0:w1.cell? ⟨gb,0,none⟩=some (.int .i64 k):=cell_at 0 hb
   clear oA hb hgb x0 x1 x2 x3 x4 x5 x6
   by_cases h1:k=1
   ·subst h1
    have hL:L0=1:=by rcases HKS.out with h | h | h<;>omega
    subst hL
    obtain ⟨-,gq,k',nn',nm',zs,p',a',c',haq,hq0,z0,z1,z2,z3,z4,hv'⟩:=HV0.out.elem (j:=0) (by omega)
    cases haq
    simp only [Nat.zero_mul,Nat.zero_add,Nat.one_mul,Nat.reduceMul,Nat.reduceAdd] at z0 z1 z2 z3 z4
    have hwz:=wL_mem HWX.out hq0
    have hsq:=sizeL_mem hq0
    obtain ⟨e',hee⟩:∃ e',e'=E.mk k' nn' nm' zs p':=⟨_,rfl⟩
    obtain ⟨sn',hsn'⟩:∃ s,s=strOf nm':=⟨_,rfl⟩
    obtain ⟨L,hL⟩:∃ L,L=zs.length:=⟨_,rfl⟩
    have hev:EV w1 B e' [.int .i64 k',.int .i64 nn',.string sn',.slice a' L c',.int .i64 p']:=by rw [hee,hsn',hL];exact EV.mk' hv'
    rw [← hee] at hsq hq0
    rw [← hsn'] at z2
    rw [← hL] at z3
    have hys:ys=[e']:=by
     have hl:=HL0.out
     match ys,hl,hq0 with
     | [y],_,hq0=>simpa using hq0
    have hxr:=HXR.out
    rw [if_pos rfl,hys] at hxr
    dsimp only at hxr
    obtain ⟨t,ht⟩:∃ t,t=(kindR rj e' ej).1:=⟨_,rfl⟩
    obtain ⟨r2,hr2⟩:∃ r2,r2=(kindR rj e' ej).2:=⟨_,rfl⟩
    have K1:=rkind_all 1000000 (Nat.le_refl _) e' (by omega) w1 lo g vj rj _ B ej _ HI.out.k hev HB.out HI.out.e (by omega)
    rw [← ht,← hr2] at K1 hxr
    have HXR2:=Lib.hid hxr
    have y2:w1.cell? ⟨gb,2,none⟩=some (.slice (some ⟨gq,0,none⟩) 1 c0):=cell_at 2 HBX.out
    clear hwz hsq hee hsn' hL hev hys hxr ht hr2 hq0 hv' HXR
    go_wp2_with fail
    refine K1.mono ?_
    rintro en w5 ⟨rfl,v5,hk5,ht5⟩
    have hbxN:=ht5.heap HI.out.k HBX.out (by decide) (by decide)
    replace HVj:=Lib.hid (kept_ss HVj.out HI.out.k HB.out ht5)
    replace HV0:=Lib.hid (kept_es HV0.out HI.out.k HB.out ht5)
    replace HV1:=Lib.hid (kept_ss HV1.out HI.out.k HB.out ht5)
    replace HV2:=Lib.hid (kept_ss HV2.out HI.out.k HB.out ht5)
    replace HBX:=Lib.hid hbxN
    replace HI:=Lib.hid (HI.out.state hk5 ht5)
    clear hbxN hk5 ht5
    clear K1 y0 y2 z0 z1 z2 z3 z4
    have y1:w5.cell? ⟨gb,1,none⟩=some (.string sn):=cell_at 1 HBX.out
    have y6:w5.cell? ⟨gb,6,none⟩=some (.int .i64 p):=cell_at 6 HBX.out
    have K2:=rdeclare_any HI.out.k nm p
    rw [← HSN.out] at K2
    go_wp2_with fail
    refine K2.mono ?_
    rintro en w6 ⟨rfl,v6,hk6,ht6⟩
    have hbxN:=ht6.heap HI.out.k HBX.out (by decide) (by decide)
    replace HVj:=Lib.hid (kept_ss HVj.out HI.out.k HB.out ht6)
    replace HV0:=Lib.hid (kept_es HV0.out HI.out.k HB.out ht6)
    replace HV1:=Lib.hid (kept_ss HV1.out HI.out.k HB.out ht6)
    replace HV2:=Lib.hid (kept_ss HV2.out HI.out.k HB.out ht6)
    replace HBX:=Lib.hid hbxN
    replace HI:=Lib.hid (HI.out.state hk6 ht6)
    clear hbxN hk6 ht6
    clear K2 y1 y6
    have y1:w6.cell? ⟨gb,1,none⟩=some (.string sn):=cell_at 1 HBX.out
    have hO6:Only [] w6 (w6.alloc (.cells #[.string sn,.int .i64 t] 85)):=(Only.refl [] w6).alloc _
    have hN6:=heap_new w6 (.cells #[.string sn,.int .i64 t] 85)
    have HO6:=Lib.hid hO6
    have HN6:=Lib.hid hN6
    clear hO6 hN6
    go_wp2_with (refine wpList_append_kn rfl (.tmp 54) (.tmp 59) rfl (.slice ua ej.length uc) ej (by rfl) (HI.out.e.kept HO6.out (by simp)) w6.heap.size 1 (by rfl) (nm,t) (by rw [← HSN.out];exact cell_at 0 HN6.out) (cell_at 1 HN6.out) (by omega) ?_;intro a7 c7 w7 h7 x7;have H7:=Lib.hid (And.intro h7 x7);clear h7 x7)
    obtain ⟨h7,x7⟩:=H7.out
    refine ⟨⟨j+1,v6,r2.declare nm p,ej++[(nm,t)],by omega,by simp,Lib.hid ((HI.out.quiet HO6.out).grow h7 x7),Lib.hid (by rw [HXJ.out,HXR2.out]),Lib.hid ((HI.out.quiet HO6.out).kept_ss HLO.out HB.out (HVj.out.quiet HO6.out) x7),?_⟩,?_⟩
    ·rw [List.length_append]
     exact hej3
    ·simp [intOf]
     omega
   ·rw [if_neg h1] at HXR
    have h1':(k == 1)=false:=by simpa using h1
    by_cases h6:k=6
    ·subst h6
     have hL:L0=1:=by rcases HKS.out with h | h | h<;>omega
     subst hL
     obtain ⟨-,gq,k',nn',nm',zs,p',a',c',haq,hq0,z0,z1,z2,z3,z4,hv'⟩:=HV0.out.elem (j:=0) (by omega)
     cases haq
     simp only [Nat.zero_mul,Nat.zero_add,Nat.one_mul,Nat.reduceMul,Nat.reduceAdd] at z0 z1 z2 z3 z4
     have hwz:=wL_mem HWX.out hq0
     have hsq:=sizeL_mem hq0
     obtain ⟨e',hee⟩:∃ e',e'=E.mk k' nn' nm' zs p':=⟨_,rfl⟩
     obtain ⟨sn',hsn'⟩:∃ s,s=strOf nm':=⟨_,rfl⟩
     obtain ⟨L,hL⟩:∃ L,L=zs.length:=⟨_,rfl⟩
     have hev:EV w1 B e' [.int .i64 k',.int .i64 nn',.string sn',.slice a' L c',.int .i64 p']:=by rw [hee,hsn',hL];exact EV.mk' hv'
     rw [← hee] at hsq hq0
     rw [← hsn'] at z2
     rw [← hL] at z3
     have hys:ys=[e']:=by
      have hl:=HL0.out
      match ys,hl,hq0 with
      | [y],_,hq0=>simpa using hq0
     have hxr:=HXR.out
     rw [if_pos rfl,hys] at hxr
     dsimp only at hxr
     obtain ⟨r2,hr2⟩:∃ r2,r2=needR rj e' 2 ej:=⟨_,rfl⟩
     have K1:=rneed_any HI.out.k hev (by omega) HB.out HI.out.e (by omega) 2
     rw [← hr2] at K1 hxr
     have HXR2:=Lib.hid hxr
     have y2:w1.cell? ⟨gb,2,none⟩=some (.slice (some ⟨gq,0,none⟩) 1 c0):=cell_at 2 HBX.out
     have I1:=IS _ hsz1 bd (Nat.le_refl _)
     have I2:=IS _ hsz2 els (Nat.le_refl _)
     have HI1:=Lib.hid I1
     have HI2:=Lib.hid I2
     clear hwz hsq hee hsn' hL hev hys hxr hr2 hq0 hv' HXR I1 I2 h1
     go_wp2_with fail
     refine K1.mono ?_
     rintro en w5 ⟨rfl,v5,hk5,ht5⟩
     have hbxN:=ht5.heap HI.out.k HBX.out (by decide) (by decide)
     replace HVj:=Lib.hid (kept_ss HVj.out HI.out.k HB.out ht5)
     replace HV0:=Lib.hid (kept_es HV0.out HI.out.k HB.out ht5)
     replace HV1:=Lib.hid (kept_ss HV1.out HI.out.k HB.out ht5)
     replace HV2:=Lib.hid (kept_ss HV2.out HI.out.k HB.out ht5)
     replace HBX:=Lib.hid hbxN
     replace HI:=Lib.hid (HI.out.state hk5 ht5)
     clear hbxN hk5 ht5
     clear K1 y2 z0 z1 z2 z3 z4
     have y4:w5.cell? ⟨gb,4,none⟩=some (.slice a1 L1 c1):=cell_at 4 HBX.out
     have K2:=HI1.out w5 lo g v5 r2 _ B ej _ HI.out.k HWB.out HV1.out HB.out HI.out.e (by omega)
     go_wp2_with fail
     refine K2.mono ?_
     rintro en w6 ⟨ve6,v6,rfl,hb6⟩
     obtain ⟨r6,hr6⟩:∃ x,x=(blockD r2 bd ej).1:=⟨_,rfl⟩
     have hk6:=hb6.k
     have ht6:=hb6.t
     rw [← hr6] at hk6
     have hxr:=HXR2.out
     rw [← hr6] at hxr
     have HXR3:=Lib.hid hxr
     have hbxN:=ht6.heap HI.out.k HBX.out (by decide) (by decide)
     replace HVj:=Lib.hid (kept_ss HVj.out HI.out.k HB.out ht6)
     replace HV0:=Lib.hid (kept_es HV0.out HI.out.k HB.out ht6)
     replace HV1:=Lib.hid (kept_ss HV1.out HI.out.k HB.out ht6)
     replace HV2:=Lib.hid (kept_ss HV2.out HI.out.k HB.out ht6)
     replace HBX:=Lib.hid hbxN
     replace HI:=Lib.hid (HI.out.state hk6 ht6)
     clear hbxN hk6 ht6
     clear K2 y4 hb6 hr6 hxr HXR2
     have y5:w6.cell? ⟨gb,5,none⟩=some (.slice a2 L2 c2):=cell_at 5 HBX.out
     have K3:=HI2.out w6 lo g v6 r6 _ B ej _ HI.out.k HWE.out HV2.out HB.out HI.out.e (by omega)
     go_wp2_with fail
     refine K3.mono ?_
     rintro en w7 ⟨ve7,v7,rfl,hb7⟩
     obtain ⟨r7,hr7⟩:∃ x,x=(blockD r6 els ej).1:=⟨_,rfl⟩
     have hk7:=hb7.k
     have ht7:=hb7.t
     rw [← hr7] at hk7
     have hxr:=HXR3.out
     rw [← hr7] at hxr
     have HXR4:=Lib.hid hxr
     have hbxN:=ht7.heap HI.out.k HBX.out (by decide) (by decide)
     replace HVj:=Lib.hid (kept_ss HVj.out HI.out.k HB.out ht7)
     replace HV0:=Lib.hid (kept_es HV0.out HI.out.k HB.out ht7)
     replace HV1:=Lib.hid (kept_ss HV1.out HI.out.k HB.out ht7)
     replace HV2:=Lib.hid (kept_ss HV2.out HI.out.k HB.out ht7)
     replace HBX:=Lib.hid hbxN
     replace HI:=Lib.hid (HI.out.state hk7 ht7)
     clear hbxN hk7 ht7
     clear K3 y5 hb7 hr7 hxr HXR3
     go_wp2_with fail
     refine ⟨⟨j+1,v7,r7,ej,by omega,by simp,HI,Lib.hid (by rw [HXJ.out,HXR4.out]),HVj,by omega⟩,?_⟩
     simp [intOf]
     omega
    ·rw [if_neg h6] at HXR
     have h6':(k == 6)=false:=by simpa using h6
     by_cases h78:k=7∨k=8
     ·rw [if_pos h78] at HXR
      have y1:w1.cell? ⟨gb,1,none⟩=some (.string sn):=cell_at 1 HBX.out
      have y6:w1.cell? ⟨gb,6,none⟩=some (.int .i64 p):=cell_at 6 HBX.out
      have I1:=IS _ hsz1 bd (Nat.le_refl _)
      have HI1:=Lib.hid I1
      have K1:=rdeclare_any HI.out.k nm p
      rw [← HSN.out] at K1
      obtain ⟨r2,hr2⟩:∃ r2,r2=rj.declare nm p:=⟨_,rfl⟩
      have hxr:=HXR.out
      rw [← hr2] at K1 hxr
      have HXR2:=Lib.hid hxr
      clear I1 hr2 hxr HXR h1 h6
      rcases h78 with h7 | h7
      ·subst h7
       go_wp2_with fail
       refine K1.mono ?_
       rintro en w5 ⟨rfl,v5,hk5,ht5⟩
       have hbxN:=ht5.heap HI.out.k HBX.out (by decide) (by decide)
       replace HVj:=Lib.hid (kept_ss HVj.out HI.out.k HB.out ht5)
       replace HV0:=Lib.hid (kept_es HV0.out HI.out.k HB.out ht5)
       replace HV1:=Lib.hid (kept_ss HV1.out HI.out.k HB.out ht5)
       replace HV2:=Lib.hid (kept_ss HV2.out HI.out.k HB.out ht5)
       replace HBX:=Lib.hid hbxN
       replace HI:=Lib.hid (HI.out.state hk5 ht5)
       clear hbxN hk5 ht5
       clear K1 y0 y1 y6
       have y3:w5.cell? ⟨gb,3,none⟩=some (.int .i64 nn):=cell_at 3 HBX.out
       by_cases h64:64 < nn
       ·have hxr:=HXR2.out
        rw [if_pos h64] at hxr
        obtain ⟨r3,hr3⟩:∃ r3,r3=r2.fail 11 p:=⟨_,rfl⟩
        have K2:=rfail_any HI.out.k 11 p
        rw [← hr3] at hxr K2
        have HXR3:=Lib.hid hxr
        have y6:w5.cell? ⟨gb,6,none⟩=some (.int .i64 p):=cell_at 6 HBX.out
        clear hxr hr3 HXR2
        go_wp2_with fail
        refine K2.mono ?_
        rintro en w6 ⟨rfl,hk6,ht6⟩
        have hbxN:=ht6.heap HI.out.k HBX.out (by decide) (by decide)
        replace HVj:=Lib.hid (kept_ss HVj.out HI.out.k HB.out ht6)
        replace HV0:=Lib.hid (kept_es HV0.out HI.out.k HB.out ht6)
        replace HV1:=Lib.hid (kept_ss HV1.out HI.out.k HB.out ht6)
        replace HV2:=Lib.hid (kept_ss HV2.out HI.out.k HB.out ht6)
        replace HBX:=Lib.hid hbxN
        replace HI:=Lib.hid (HI.out.state hk6 ht6)
        clear hbxN hk6 ht6
        clear K2 y3 y6
        go_upto_region 22 with (fail)
        have oD:Only [] w6 w6.drew:=(Only.refl [] w6).drew
        refine wp_region_held_drew (S:=fun w'=>w'.cell? ⟨gb,4,none⟩=some (.slice a1 L1 c1)∧w'.cell? ⟨gb,1,none⟩=some (.string sn)) (by kernel_rfl) ⟨cell_kept oD (cell_at 4 HBX.out) (by simp),cell_kept oD (cell_at 1 HBX.out) (by simp)⟩ (fun hH=>?_)
        replace HI:=Lib.hid (HI.out.quiet oD)
        replace HVj:=Lib.hid (HVj.out.quiet oD)
        replace HV1:=Lib.hid (HV1.out.quiet oD)
        replace HBX:=Lib.hid (oD.heap HBX.out (by simp))
        clear oD HV0 HV2
        generalize w6.drew=wd at HI HVj HV1 HBX hH⊢
        have HOZ:=Lib.hid (Only.refl [] wd)
        refine take_list (i:=0) (v:=?_) rfl (by kernel_rfl) (by kernel_rfl) (by kernel_rfl) (fun _ _ _ h=>h) (Or.inl ⟨by rfl,?_⟩) hH ?_
        rotate_left
        ·((intro w hSw;(try dsimp only at hSw);go_simp);try with_reducible rfl)
        simp only [Act.put,List.setIfInBounds_toArray,List.set_cons_zero,List.set_cons_succ]
        refine take_list (i:=1) (v:=?_) rfl (by kernel_rfl) (by kernel_rfl) (by kernel_rfl) (fun _ _ _ h=>h) (Or.inl ⟨by rfl,?_⟩) hH ?_
        rotate_left
        ·((intro w hSw;(try dsimp only at hSw);go_simp);try with_reducible rfl)
        simp only [Act.put,List.setIfInBounds_toArray,List.set_cons_zero,List.set_cons_succ]
        refine take_list (i:=2) (v:=?_) rfl (by kernel_rfl) (by kernel_rfl) (by kernel_rfl) (fun _ _ _ h=>h) (Or.inl ⟨by rfl,?_⟩) hH ?_
        rotate_left
        ·((intro w hSw;(try dsimp only at hSw);go_simp);try with_reducible rfl)
        simp only [Act.put,List.setIfInBounds_toArray,List.set_cons_zero,List.set_cons_succ]
        refine take_list (i:=4) (v:=?_) rfl (by kernel_rfl) (by kernel_rfl) (by kernel_rfl) (fun _ _ _ h=>h) (Or.inl ⟨by rfl,?_⟩) hH ?_
        rotate_left
        ·((intro w hSw;(try dsimp only at hSw);go_simp);try with_reducible rfl)
        simp only [Act.put,List.setIfInBounds_toArray,List.set_cons_zero,List.set_cons_succ]
        refine take_list (i:=6) (v:=?_) rfl (by kernel_rfl) (by kernel_rfl) (by kernel_rfl) (fun _ _ _ h=>h) (Or.inl ⟨by rfl,?_⟩) hH ?_
        rotate_left
        ·((intro w hSw;(try dsimp only at hSw);go_simp);try with_reducible rfl)
        simp only [Act.put,List.setIfInBounds_toArray,List.set_cons_zero,List.set_cons_succ]
        refine take_list (i:=7) (v:=?_) rfl (by kernel_rfl) (by kernel_rfl) (by kernel_rfl) (fun _ _ _ h=>h) (Or.inl ⟨by rfl,?_⟩) hH ?_
        rotate_left
        ·((intro w hSw;(try dsimp only at hSw);go_simp);try with_reducible rfl)
        simp only [Act.put,List.setIfInBounds_toArray,List.set_cons_zero,List.set_cons_succ]
        refine take_list (i:=8) (v:=?_) rfl (by kernel_rfl) (by kernel_rfl) (by kernel_rfl) (fun _ _ _ h=>h) (Or.inl ⟨by rfl,?_⟩) hH ?_
        rotate_left
        ·((intro w hSw;(try dsimp only at hSw);go_simp);try with_reducible rfl)
        simp only [Act.put,List.setIfInBounds_toArray,List.set_cons_zero,List.set_cons_succ]
        refine wpAnyH_ready (rs:=[3,9]) (by kernel_rfl) (by simp) ?_
        refine ready_two rfl rfl (fun K hK=>?_) (fun K hK=>?_)
        ·go_simp
         have oE:=(Only.refl [] wd).alloc (.cells #[] 85)
         have hE:=OKn.empty wd
         have sE:(wd.alloc (.cells #[] 85)).heap.size=wd.heap.size+1:=Array.size_push _
         obtain ⟨ge,hge⟩:∃ ge,ge=wd.heap.size:=⟨_,rfl⟩
         rw [← hge] at hE sE⊢
         generalize wd.alloc (.cells #[] 85)=wa at oE hE sE⊢
         have hgez:wd.heap.size≤ge:=by rw [hge];exact HOZ.out.size
         replace HOZ:=Lib.hid (HOZ.out.trans oE (by simp))
         have HEm:=Lib.hid hE
         skip
         have HSE:=Lib.hid sE
         have HGE:=Lib.hid hge
         refine hK.out _ _ ⟨cell_at 4 (HOZ.out.heap HBX.out (by simp)),cell_at 1 (HOZ.out.heap HBX.out (by simp))⟩ (fun hH=>?_)
         clear hK K oE hE sE hge
         refine wpAnyH_ready (rs:=[5,9]) (by kernel_rfl) (by simp) ?_
         refine ready_two rfl rfl (fun K hK=>?_) (fun K hK=>?_)
         ·skip
          refine step_append_kns (by rfl) (.tmp 99) (.tmp 100) (by rfl) (.slice (some ⟨ge,0,none⟩) 0 0) (.slice ua ej.length uc) [] ej (by rfl) HEm.out (by rfl) (HI.out.e.kept HOZ.out (by simp)) (by simp;omega) (fun a5 c5 wb h5 x5=>?_)
          have o5:Only [] wd wb:=HOZ.out.trans x5.only (fun q hq=>.inr (by
           have:=hq
           simp [Value.ownBlock] at this
           omega))
          have s5:∀ q,(Value.slice a5 (([]:Env).length+ej.length) c5).ownBlock=some q→wd.heap.size≤q:=fun q hq=>by
           rcases x5.src q hq with e | e
           ·have:=e
            simp [Value.ownBlock] at this
            omega
           ·exact Nat.le_trans HOZ.out.size e
          skip
          replace HOZ:=Lib.hid o5
          simp only [List.length_nil,Nat.zero_add,List.nil_append] at h5 s5⊢
          have HA5:=Lib.hid h5
          have HS5:=Lib.hid s5
          refine hK.out _ _ ⟨cell_at 4 (HOZ.out.heap HBX.out (by simp)),cell_at 1 (HOZ.out.heap HBX.out (by simp))⟩ (fun hH=>?_)
          clear hK K o5 h5 s5 x5 HEm
          refine wpAnyH_ready (rs:=[9]) (by kernel_rfl) (by simp) ?_
          refine ready_list rfl (fun K hK=>?_)
          go_simp
          have oN:=(Only.refl [] wb).alloc (.cells #[.string sn,.int .i64 1] 85)
          have hN:=heap_new wb (.cells #[.string sn,.int .i64 1] 85)
          have sN:(wb.alloc (.cells #[.string sn,.int .i64 1] 85)).heap.size=wb.heap.size+1:=Array.size_push _
          obtain ⟨gn,hgn⟩:∃ gn,gn=wb.heap.size:=⟨_,rfl⟩
          rw [← hgn] at hN sN⊢
          generalize wb.alloc (.cells #[.string sn,.int .i64 1] 85)=wc at oN hN sN⊢
          replace HOZ:=Lib.hid (HOZ.out.trans oN (by simp))
          have HNn:=Lib.hid hN
          replace HA5:=Lib.hid (HA5.out.kept oN (by simp))
          have HSN2:=Lib.hid sN
          have HGN:=Lib.hid hgn
          refine hK.out _ _ ⟨cell_at 4 (HOZ.out.heap HBX.out (by simp)),cell_at 1 (HOZ.out.heap HBX.out (by simp))⟩ (fun hH=>?_)
          clear hK K oN hN sN hgn
          refine wpAnyH_ready (rs:=[10]) (by kernel_rfl) (by simp) ?_
          refine ready_list rfl (fun K hK=>?_)
          refine step_append_kn (by rfl) (.tmp 101) (.tmp 105) (by rfl) (.slice a5 ej.length c5) ej (by rfl) HA5.out gn 1 (by rfl) (nm,1) (by rw [← HSN.out];exact cell_at 0 HNn.out) (cell_at 1 HNn.out) (by omega) (fun a6 c6 wz h6 x6=>?_)
          have o6:Only [] wd wz:=HOZ.out.trans x6.only (fun q hq=>.inr (HS5.out q (by simpa using hq)))
          replace HOZ:=Lib.hid o6
          have HA6:=Lib.hid h6
          refine hK.out _ _ ⟨cell_at 4 (HOZ.out.heap HBX.out (by simp)),cell_at 1 (HOZ.out.heap HBX.out (by simp))⟩ (fun hH=>?_)
          clear hK K o6 h6 x6 HA5 HS5 HNn
          refine wpAnyH_ready (rs:=[11]) (by kernel_rfl) (by simp) ?_
          refine ready_list rfl (fun K hK=>?_)
          go_simp
          refine (HI1.out wz lo g _ r3 _ B (ej++[(nm,1)]) _ (HI.out.k.quiet HOZ.out) HWB.out (HV1.out.quiet HOZ.out) HB.out HA6.out (by rw [List.length_append];exact hej1)).mono ?_
          rintro en w7 ⟨ve7,v7,rfl,hb7⟩
          have hk7:=hb7.k
          have ht7:=hb7.t
          obtain ⟨r7,hr7⟩:∃ x,x=(blockD r3 bd (ej++[(nm,1)])).1:=⟨_,rfl⟩
          have hxr:=HXR3.out
          rw [← hr7] at hxr hk7
          have hbx7:=ht7.heap (HI.out.k.quiet HOZ.out) (HOZ.out.heap HBX.out (by simp)) (by decide) (by decide)
          have HVj7:=Lib.hid (kept_ss (HVj.out.quiet HOZ.out) (HI.out.k.quiet HOZ.out) HB.out ht7)
          have HI7:=Lib.hid ((HI.out.quiet HOZ.out).state hk7 ht7)
          have HXR4:=Lib.hid hxr
          refine hK.out _ _ ⟨cell_at 4 hbx7,cell_at 1 hbx7⟩ (fun hH=>?_)
          clear hK K hb7 hk7 ht7 hr7 hxr hbx7 hH
          refine wpAnyH_done (by kernel_rfl) ?_ _
          go_wp2_with fail
          refine ⟨⟨j+1,v7,r7,ej,by omega,by simp,HI7,Lib.hid (by rw [HXJ.out,HXR4.out]),HVj7,by omega⟩,?_⟩
          simp [intOf]
          omega
         ·go_simp
          have oN:=(Only.refl [] wa).alloc (.cells #[.string sn,.int .i64 1] 85)
          have hN:=heap_new wa (.cells #[.string sn,.int .i64 1] 85)
          have sN:(wa.alloc (.cells #[.string sn,.int .i64 1] 85)).heap.size=wa.heap.size+1:=Array.size_push _
          obtain ⟨gn,hgn⟩:∃ gn,gn=wa.heap.size:=⟨_,rfl⟩
          rw [← hgn] at hN sN⊢
          generalize wa.alloc (.cells #[.string sn,.int .i64 1] 85)=wb at oN hN sN⊢
          replace HOZ:=Lib.hid (HOZ.out.trans oN (by simp))
          have HNn:=Lib.hid hN
          replace HEm:=Lib.hid (HEm.out.kept oN (by simp))
          have HSN2:=Lib.hid sN
          have HGN:=Lib.hid hgn
          refine hK.out _ _ ⟨cell_at 4 (HOZ.out.heap HBX.out (by simp)),cell_at 1 (HOZ.out.heap HBX.out (by simp))⟩ (fun hH=>?_)
          clear hK K oN hN sN hgn
          refine wpAnyH_ready (rs:=[5]) (by kernel_rfl) (by simp) ?_
          refine ready_list rfl (fun K hK=>?_)
          refine step_append_kns (by rfl) (.tmp 99) (.tmp 100) (by rfl) (.slice (some ⟨ge,0,none⟩) 0 0) (.slice ua ej.length uc) [] ej (by rfl) HEm.out (by rfl) (HI.out.e.kept HOZ.out (by simp)) (by simp;omega) (fun a5 c5 wc h5 x5=>?_)
          have o5:Only [] wd wc:=HOZ.out.trans x5.only (fun q hq=>.inr (by
           have:=hq
           simp [Value.ownBlock] at this
           omega))
          have s5:∀ q,(Value.slice a5 (([]:Env).length+ej.length) c5).ownBlock=some q→wd.heap.size≤q:=fun q hq=>by
           rcases x5.src q hq with e | e
           ·have:=e
            simp [Value.ownBlock] at this
            omega
           ·exact Nat.le_trans HOZ.out.size e
          replace HNn:=Lib.hid (x5.only.heap HNn.out (by have q1:=HSE.out;have q2:=HGN.out;have q3:=HSN2.out;have q4:=HGE.out;simp [Value.ownBlock];omega))
          replace HOZ:=Lib.hid o5
          simp only [List.length_nil,Nat.zero_add,List.nil_append] at h5 s5⊢
          have HA5:=Lib.hid h5
          have HS5:=Lib.hid s5
          refine hK.out _ _ ⟨cell_at 4 (HOZ.out.heap HBX.out (by simp)),cell_at 1 (HOZ.out.heap HBX.out (by simp))⟩ (fun hH=>?_)
          clear hK K o5 h5 s5 x5 HEm
          refine wpAnyH_ready (rs:=[10]) (by kernel_rfl) (by simp) ?_
          refine ready_list rfl (fun K hK=>?_)
          refine step_append_kn (by rfl) (.tmp 101) (.tmp 105) (by rfl) (.slice a5 ej.length c5) ej (by rfl) HA5.out gn 1 (by rfl) (nm,1) (by rw [← HSN.out];exact cell_at 0 HNn.out) (cell_at 1 HNn.out) (by omega) (fun a6 c6 wz h6 x6=>?_)
          have o6:Only [] wd wz:=HOZ.out.trans x6.only (fun q hq=>.inr (HS5.out q (by simpa using hq)))
          replace HOZ:=Lib.hid o6
          have HA6:=Lib.hid h6
          refine hK.out _ _ ⟨cell_at 4 (HOZ.out.heap HBX.out (by simp)),cell_at 1 (HOZ.out.heap HBX.out (by simp))⟩ (fun hH=>?_)
          clear hK K o6 h6 x6 HA5 HS5 HNn
          refine wpAnyH_ready (rs:=[11]) (by kernel_rfl) (by simp) ?_
          refine ready_list rfl (fun K hK=>?_)
          go_simp
          refine (HI1.out wz lo g _ r3 _ B (ej++[(nm,1)]) _ (HI.out.k.quiet HOZ.out) HWB.out (HV1.out.quiet HOZ.out) HB.out HA6.out (by rw [List.length_append];exact hej1)).mono ?_
          rintro en w7 ⟨ve7,v7,rfl,hb7⟩
          have hk7:=hb7.k
          have ht7:=hb7.t
          obtain ⟨r7,hr7⟩:∃ x,x=(blockD r3 bd (ej++[(nm,1)])).1:=⟨_,rfl⟩
          have hxr:=HXR3.out
          rw [← hr7] at hxr hk7
          have hbx7:=ht7.heap (HI.out.k.quiet HOZ.out) (HOZ.out.heap HBX.out (by simp)) (by decide) (by decide)
          have HVj7:=Lib.hid (kept_ss (HVj.out.quiet HOZ.out) (HI.out.k.quiet HOZ.out) HB.out ht7)
          have HI7:=Lib.hid ((HI.out.quiet HOZ.out).state hk7 ht7)
          have HXR4:=Lib.hid hxr
          refine hK.out _ _ ⟨cell_at 4 hbx7,cell_at 1 hbx7⟩ (fun hH=>?_)
          clear hK K hb7 hk7 ht7 hr7 hxr hbx7 hH
          refine wpAnyH_done (by kernel_rfl) ?_ _
          go_wp2_with fail
          refine ⟨⟨j+1,v7,r7,ej,by omega,by simp,HI7,Lib.hid (by rw [HXJ.out,HXR4.out]),HVj7,by omega⟩,?_⟩
          simp [intOf]
          omega
        ·go_simp
         have oN:=(Only.refl [] wd).alloc (.cells #[.string sn,.int .i64 1] 85)
         have hN:=heap_new wd (.cells #[.string sn,.int .i64 1] 85)
         have sN:(wd.alloc (.cells #[.string sn,.int .i64 1] 85)).heap.size=wd.heap.size+1:=Array.size_push _
         obtain ⟨gn,hgn⟩:∃ gn,gn=wd.heap.size:=⟨_,rfl⟩
         rw [← hgn] at hN sN⊢
         generalize wd.alloc (.cells #[.string sn,.int .i64 1] 85)=wa at oN hN sN⊢
         replace HOZ:=Lib.hid (HOZ.out.trans oN (by simp))
         have HNn:=Lib.hid hN
         skip
         have HSN2:=Lib.hid sN
         have HGN:=Lib.hid hgn
         refine hK.out _ _ ⟨cell_at 4 (HOZ.out.heap HBX.out (by simp)),cell_at 1 (HOZ.out.heap HBX.out (by simp))⟩ (fun hH=>?_)
         clear hK K oN hN sN hgn
         refine wpAnyH_ready (rs:=[3]) (by kernel_rfl) (by simp) ?_
         refine ready_list rfl (fun K hK=>?_)
         go_simp
         have oE:=(Only.refl [] wa).alloc (.cells #[] 85)
         have hE:=OKn.empty wa
         have sE:(wa.alloc (.cells #[] 85)).heap.size=wa.heap.size+1:=Array.size_push _
         obtain ⟨ge,hge⟩:∃ ge,ge=wa.heap.size:=⟨_,rfl⟩
         rw [← hge] at hE sE⊢
         generalize wa.alloc (.cells #[] 85)=wb at oE hE sE⊢
         have hgez:wd.heap.size≤ge:=by rw [hge];exact HOZ.out.size
         replace HOZ:=Lib.hid (HOZ.out.trans oE (by simp))
         have HEm:=Lib.hid hE
         replace HNn:=Lib.hid (oE.heap HNn.out (by simp))
         have HSE:=Lib.hid sE
         have HGE:=Lib.hid hge
         refine hK.out _ _ ⟨cell_at 4 (HOZ.out.heap HBX.out (by simp)),cell_at 1 (HOZ.out.heap HBX.out (by simp))⟩ (fun hH=>?_)
         clear hK K oE hE sE hge
         refine wpAnyH_ready (rs:=[5]) (by kernel_rfl) (by simp) ?_
         refine ready_list rfl (fun K hK=>?_)
         refine step_append_kns (by rfl) (.tmp 99) (.tmp 100) (by rfl) (.slice (some ⟨ge,0,none⟩) 0 0) (.slice ua ej.length uc) [] ej (by rfl) HEm.out (by rfl) (HI.out.e.kept HOZ.out (by simp)) (by simp;omega) (fun a5 c5 wc h5 x5=>?_)
         have o5:Only [] wd wc:=HOZ.out.trans x5.only (fun q hq=>.inr (by
          have:=hq
          simp [Value.ownBlock] at this
          omega))
         have s5:∀ q,(Value.slice a5 (([]:Env).length+ej.length) c5).ownBlock=some q→wd.heap.size≤q:=fun q hq=>by
          rcases x5.src q hq with e | e
          ·have:=e
           simp [Value.ownBlock] at this
           omega
          ·exact Nat.le_trans HOZ.out.size e
         replace HNn:=Lib.hid (x5.only.heap HNn.out (by have q1:=HSE.out;have q2:=HGN.out;have q3:=HSN2.out;have q4:=HGE.out;simp [Value.ownBlock];omega))
         replace HOZ:=Lib.hid o5
         simp only [List.length_nil,Nat.zero_add,List.nil_append] at h5 s5⊢
         have HA5:=Lib.hid h5
         have HS5:=Lib.hid s5
         refine hK.out _ _ ⟨cell_at 4 (HOZ.out.heap HBX.out (by simp)),cell_at 1 (HOZ.out.heap HBX.out (by simp))⟩ (fun hH=>?_)
         clear hK K o5 h5 s5 x5 HEm
         refine wpAnyH_ready (rs:=[10]) (by kernel_rfl) (by simp) ?_
         refine ready_list rfl (fun K hK=>?_)
         refine step_append_kn (by rfl) (.tmp 101) (.tmp 105) (by rfl) (.slice a5 ej.length c5) ej (by rfl) HA5.out gn 1 (by rfl) (nm,1) (by rw [← HSN.out];exact cell_at 0 HNn.out) (cell_at 1 HNn.out) (by omega) (fun a6 c6 wz h6 x6=>?_)
         have o6:Only [] wd wz:=HOZ.out.trans x6.only (fun q hq=>.inr (HS5.out q (by simpa using hq)))
         replace HOZ:=Lib.hid o6
         have HA6:=Lib.hid h6
         refine hK.out _ _ ⟨cell_at 4 (HOZ.out.heap HBX.out (by simp)),cell_at 1 (HOZ.out.heap HBX.out (by simp))⟩ (fun hH=>?_)
         clear hK K o6 h6 x6 HA5 HS5 HNn
         refine wpAnyH_ready (rs:=[11]) (by kernel_rfl) (by simp) ?_
         refine ready_list rfl (fun K hK=>?_)
         go_simp
         refine (HI1.out wz lo g _ r3 _ B (ej++[(nm,1)]) _ (HI.out.k.quiet HOZ.out) HWB.out (HV1.out.quiet HOZ.out) HB.out HA6.out (by rw [List.length_append];exact hej1)).mono ?_
         rintro en w7 ⟨ve7,v7,rfl,hb7⟩
         have hk7:=hb7.k
         have ht7:=hb7.t
         obtain ⟨r7,hr7⟩:∃ x,x=(blockD r3 bd (ej++[(nm,1)])).1:=⟨_,rfl⟩
         have hxr:=HXR3.out
         rw [← hr7] at hxr hk7
         have hbx7:=ht7.heap (HI.out.k.quiet HOZ.out) (HOZ.out.heap HBX.out (by simp)) (by decide) (by decide)
         have HVj7:=Lib.hid (kept_ss (HVj.out.quiet HOZ.out) (HI.out.k.quiet HOZ.out) HB.out ht7)
         have HI7:=Lib.hid ((HI.out.quiet HOZ.out).state hk7 ht7)
         have HXR4:=Lib.hid hxr
         refine hK.out _ _ ⟨cell_at 4 hbx7,cell_at 1 hbx7⟩ (fun hH=>?_)
         clear hK K hb7 hk7 ht7 hr7 hxr hbx7 hH
         refine wpAnyH_done (by kernel_rfl) ?_ _
         go_wp2_with fail
         refine ⟨⟨j+1,v7,r7,ej,by omega,by simp,HI7,Lib.hid (by rw [HXJ.out,HXR4.out]),HVj7,by omega⟩,?_⟩
         simp [intOf]
         omega
       ·have hxr:=HXR2.out
        rw [if_neg h64] at hxr
        obtain ⟨r3,hr3⟩:∃ r3,r3=r2:=⟨_,rfl⟩
        rw [← hr3] at hxr HI
        have HXR3:=Lib.hid hxr
        clear hxr hr3 HXR2
        go_upto_region 22 with (fail)
        have oD:Only [] w5 w5.drew:=(Only.refl [] w5).drew
        refine wp_region_held_drew (S:=fun w'=>w'.cell? ⟨gb,4,none⟩=some (.slice a1 L1 c1)∧w'.cell? ⟨gb,1,none⟩=some (.string sn)) (by kernel_rfl) ⟨cell_kept oD (cell_at 4 HBX.out) (by simp),cell_kept oD (cell_at 1 HBX.out) (by simp)⟩ (fun hH=>?_)
        replace HI:=Lib.hid (HI.out.quiet oD)
        replace HVj:=Lib.hid (HVj.out.quiet oD)
        replace HV1:=Lib.hid (HV1.out.quiet oD)
        replace HBX:=Lib.hid (oD.heap HBX.out (by simp))
        clear oD HV0 HV2
        generalize w5.drew=wd at HI HVj HV1 HBX hH⊢
        have HOZ:=Lib.hid (Only.refl [] wd)
        refine take_list (i:=0) (v:=?_) rfl (by kernel_rfl) (by kernel_rfl) (by kernel_rfl) (fun _ _ _ h=>h) (Or.inl ⟨by rfl,?_⟩) hH ?_
        rotate_left
        ·((intro w hSw;(try dsimp only at hSw);go_simp);try with_reducible rfl)
        simp only [Act.put,List.setIfInBounds_toArray,List.set_cons_zero,List.set_cons_succ]
        refine take_list (i:=1) (v:=?_) rfl (by kernel_rfl) (by kernel_rfl) (by kernel_rfl) (fun _ _ _ h=>h) (Or.inl ⟨by rfl,?_⟩) hH ?_
        rotate_left
        ·((intro w hSw;(try dsimp only at hSw);go_simp);try with_reducible rfl)
        simp only [Act.put,List.setIfInBounds_toArray,List.set_cons_zero,List.set_cons_succ]
        refine take_list (i:=2) (v:=?_) rfl (by kernel_rfl) (by kernel_rfl) (by kernel_rfl) (fun _ _ _ h=>h) (Or.inl ⟨by rfl,?_⟩) hH ?_
        rotate_left
        ·((intro w hSw;(try dsimp only at hSw);go_simp);try with_reducible rfl)
        simp only [Act.put,List.setIfInBounds_toArray,List.set_cons_zero,List.set_cons_succ]
        refine take_list (i:=4) (v:=?_) rfl (by kernel_rfl) (by kernel_rfl) (by kernel_rfl) (fun _ _ _ h=>h) (Or.inl ⟨by rfl,?_⟩) hH ?_
        rotate_left
        ·((intro w hSw;(try dsimp only at hSw);go_simp);try with_reducible rfl)
        simp only [Act.put,List.setIfInBounds_toArray,List.set_cons_zero,List.set_cons_succ]
        refine take_list (i:=6) (v:=?_) rfl (by kernel_rfl) (by kernel_rfl) (by kernel_rfl) (fun _ _ _ h=>h) (Or.inl ⟨by rfl,?_⟩) hH ?_
        rotate_left
        ·((intro w hSw;(try dsimp only at hSw);go_simp);try with_reducible rfl)
        simp only [Act.put,List.setIfInBounds_toArray,List.set_cons_zero,List.set_cons_succ]
        refine take_list (i:=7) (v:=?_) rfl (by kernel_rfl) (by kernel_rfl) (by kernel_rfl) (fun _ _ _ h=>h) (Or.inl ⟨by rfl,?_⟩) hH ?_
        rotate_left
        ·((intro w hSw;(try dsimp only at hSw);go_simp);try with_reducible rfl)
        simp only [Act.put,List.setIfInBounds_toArray,List.set_cons_zero,List.set_cons_succ]
        refine take_list (i:=8) (v:=?_) rfl (by kernel_rfl) (by kernel_rfl) (by kernel_rfl) (fun _ _ _ h=>h) (Or.inl ⟨by rfl,?_⟩) hH ?_
        rotate_left
        ·((intro w hSw;(try dsimp only at hSw);go_simp);try with_reducible rfl)
        simp only [Act.put,List.setIfInBounds_toArray,List.set_cons_zero,List.set_cons_succ]
        refine wpAnyH_ready (rs:=[3,9]) (by kernel_rfl) (by simp) ?_
        refine ready_two rfl rfl (fun K hK=>?_) (fun K hK=>?_)
        ·go_simp
         have oE:=(Only.refl [] wd).alloc (.cells #[] 85)
         have hE:=OKn.empty wd
         have sE:(wd.alloc (.cells #[] 85)).heap.size=wd.heap.size+1:=Array.size_push _
         obtain ⟨ge,hge⟩:∃ ge,ge=wd.heap.size:=⟨_,rfl⟩
         rw [← hge] at hE sE⊢
         generalize wd.alloc (.cells #[] 85)=wa at oE hE sE⊢
         have hgez:wd.heap.size≤ge:=by rw [hge];exact HOZ.out.size
         replace HOZ:=Lib.hid (HOZ.out.trans oE (by simp))
         have HEm:=Lib.hid hE
         skip
         have HSE:=Lib.hid sE
         have HGE:=Lib.hid hge
         refine hK.out _ _ ⟨cell_at 4 (HOZ.out.heap HBX.out (by simp)),cell_at 1 (HOZ.out.heap HBX.out (by simp))⟩ (fun hH=>?_)
         clear hK K oE hE sE hge
         refine wpAnyH_ready (rs:=[5,9]) (by kernel_rfl) (by simp) ?_
         refine ready_two rfl rfl (fun K hK=>?_) (fun K hK=>?_)
         ·skip
          refine step_append_kns (by rfl) (.tmp 99) (.tmp 100) (by rfl) (.slice (some ⟨ge,0,none⟩) 0 0) (.slice ua ej.length uc) [] ej (by rfl) HEm.out (by rfl) (HI.out.e.kept HOZ.out (by simp)) (by simp;omega) (fun a5 c5 wb h5 x5=>?_)
          have o5:Only [] wd wb:=HOZ.out.trans x5.only (fun q hq=>.inr (by
           have:=hq
           simp [Value.ownBlock] at this
           omega))
          have s5:∀ q,(Value.slice a5 (([]:Env).length+ej.length) c5).ownBlock=some q→wd.heap.size≤q:=fun q hq=>by
           rcases x5.src q hq with e | e
           ·have:=e
            simp [Value.ownBlock] at this
            omega
           ·exact Nat.le_trans HOZ.out.size e
          skip
          replace HOZ:=Lib.hid o5
          simp only [List.length_nil,Nat.zero_add,List.nil_append] at h5 s5⊢
          have HA5:=Lib.hid h5
          have HS5:=Lib.hid s5
          refine hK.out _ _ ⟨cell_at 4 (HOZ.out.heap HBX.out (by simp)),cell_at 1 (HOZ.out.heap HBX.out (by simp))⟩ (fun hH=>?_)
          clear hK K o5 h5 s5 x5 HEm
          refine wpAnyH_ready (rs:=[9]) (by kernel_rfl) (by simp) ?_
          refine ready_list rfl (fun K hK=>?_)
          go_simp
          have oN:=(Only.refl [] wb).alloc (.cells #[.string sn,.int .i64 1] 85)
          have hN:=heap_new wb (.cells #[.string sn,.int .i64 1] 85)
          have sN:(wb.alloc (.cells #[.string sn,.int .i64 1] 85)).heap.size=wb.heap.size+1:=Array.size_push _
          obtain ⟨gn,hgn⟩:∃ gn,gn=wb.heap.size:=⟨_,rfl⟩
          rw [← hgn] at hN sN⊢
          generalize wb.alloc (.cells #[.string sn,.int .i64 1] 85)=wc at oN hN sN⊢
          replace HOZ:=Lib.hid (HOZ.out.trans oN (by simp))
          have HNn:=Lib.hid hN
          replace HA5:=Lib.hid (HA5.out.kept oN (by simp))
          have HSN2:=Lib.hid sN
          have HGN:=Lib.hid hgn
          refine hK.out _ _ ⟨cell_at 4 (HOZ.out.heap HBX.out (by simp)),cell_at 1 (HOZ.out.heap HBX.out (by simp))⟩ (fun hH=>?_)
          clear hK K oN hN sN hgn
          refine wpAnyH_ready (rs:=[10]) (by kernel_rfl) (by simp) ?_
          refine ready_list rfl (fun K hK=>?_)
          refine step_append_kn (by rfl) (.tmp 101) (.tmp 105) (by rfl) (.slice a5 ej.length c5) ej (by rfl) HA5.out gn 1 (by rfl) (nm,1) (by rw [← HSN.out];exact cell_at 0 HNn.out) (cell_at 1 HNn.out) (by omega) (fun a6 c6 wz h6 x6=>?_)
          have o6:Only [] wd wz:=HOZ.out.trans x6.only (fun q hq=>.inr (HS5.out q (by simpa using hq)))
          replace HOZ:=Lib.hid o6
          have HA6:=Lib.hid h6
          refine hK.out _ _ ⟨cell_at 4 (HOZ.out.heap HBX.out (by simp)),cell_at 1 (HOZ.out.heap HBX.out (by simp))⟩ (fun hH=>?_)
          clear hK K o6 h6 x6 HA5 HS5 HNn
          refine wpAnyH_ready (rs:=[11]) (by kernel_rfl) (by simp) ?_
          refine ready_list rfl (fun K hK=>?_)
          go_simp
          refine (HI1.out wz lo g _ r3 _ B (ej++[(nm,1)]) _ (HI.out.k.quiet HOZ.out) HWB.out (HV1.out.quiet HOZ.out) HB.out HA6.out (by rw [List.length_append];exact hej1)).mono ?_
          rintro en w7 ⟨ve7,v7,rfl,hb7⟩
          have hk7:=hb7.k
          have ht7:=hb7.t
          obtain ⟨r7,hr7⟩:∃ x,x=(blockD r3 bd (ej++[(nm,1)])).1:=⟨_,rfl⟩
          have hxr:=HXR3.out
          rw [← hr7] at hxr hk7
          have hbx7:=ht7.heap (HI.out.k.quiet HOZ.out) (HOZ.out.heap HBX.out (by simp)) (by decide) (by decide)
          have HVj7:=Lib.hid (kept_ss (HVj.out.quiet HOZ.out) (HI.out.k.quiet HOZ.out) HB.out ht7)
          have HI7:=Lib.hid ((HI.out.quiet HOZ.out).state hk7 ht7)
          have HXR4:=Lib.hid hxr
          refine hK.out _ _ ⟨cell_at 4 hbx7,cell_at 1 hbx7⟩ (fun hH=>?_)
          clear hK K hb7 hk7 ht7 hr7 hxr hbx7 hH
          refine wpAnyH_done (by kernel_rfl) ?_ _
          go_wp2_with fail
          refine ⟨⟨j+1,v7,r7,ej,by omega,by simp,HI7,Lib.hid (by rw [HXJ.out,HXR4.out]),HVj7,by omega⟩,?_⟩
          simp [intOf]
          omega
         ·go_simp
          have oN:=(Only.refl [] wa).alloc (.cells #[.string sn,.int .i64 1] 85)
          have hN:=heap_new wa (.cells #[.string sn,.int .i64 1] 85)
          have sN:(wa.alloc (.cells #[.string sn,.int .i64 1] 85)).heap.size=wa.heap.size+1:=Array.size_push _
          obtain ⟨gn,hgn⟩:∃ gn,gn=wa.heap.size:=⟨_,rfl⟩
          rw [← hgn] at hN sN⊢
          generalize wa.alloc (.cells #[.string sn,.int .i64 1] 85)=wb at oN hN sN⊢
          replace HOZ:=Lib.hid (HOZ.out.trans oN (by simp))
          have HNn:=Lib.hid hN
          replace HEm:=Lib.hid (HEm.out.kept oN (by simp))
          have HSN2:=Lib.hid sN
          have HGN:=Lib.hid hgn
          refine hK.out _ _ ⟨cell_at 4 (HOZ.out.heap HBX.out (by simp)),cell_at 1 (HOZ.out.heap HBX.out (by simp))⟩ (fun hH=>?_)
          clear hK K oN hN sN hgn
          refine wpAnyH_ready (rs:=[5]) (by kernel_rfl) (by simp) ?_
          refine ready_list rfl (fun K hK=>?_)
          refine step_append_kns (by rfl) (.tmp 99) (.tmp 100) (by rfl) (.slice (some ⟨ge,0,none⟩) 0 0) (.slice ua ej.length uc) [] ej (by rfl) HEm.out (by rfl) (HI.out.e.kept HOZ.out (by simp)) (by simp;omega) (fun a5 c5 wc h5 x5=>?_)
          have o5:Only [] wd wc:=HOZ.out.trans x5.only (fun q hq=>.inr (by
           have:=hq
           simp [Value.ownBlock] at this
           omega))
          have s5:∀ q,(Value.slice a5 (([]:Env).length+ej.length) c5).ownBlock=some q→wd.heap.size≤q:=fun q hq=>by
           rcases x5.src q hq with e | e
           ·have:=e
            simp [Value.ownBlock] at this
            omega
           ·exact Nat.le_trans HOZ.out.size e
          replace HNn:=Lib.hid (x5.only.heap HNn.out (by have q1:=HSE.out;have q2:=HGN.out;have q3:=HSN2.out;have q4:=HGE.out;simp [Value.ownBlock];omega))
          replace HOZ:=Lib.hid o5
          simp only [List.length_nil,Nat.zero_add,List.nil_append] at h5 s5⊢
          have HA5:=Lib.hid h5
          have HS5:=Lib.hid s5
          refine hK.out _ _ ⟨cell_at 4 (HOZ.out.heap HBX.out (by simp)),cell_at 1 (HOZ.out.heap HBX.out (by simp))⟩ (fun hH=>?_)
          clear hK K o5 h5 s5 x5 HEm
          refine wpAnyH_ready (rs:=[10]) (by kernel_rfl) (by simp) ?_
          refine ready_list rfl (fun K hK=>?_)
          refine step_append_kn (by rfl) (.tmp 101) (.tmp 105) (by rfl) (.slice a5 ej.length c5) ej (by rfl) HA5.out gn 1 (by rfl) (nm,1) (by rw [← HSN.out];exact cell_at 0 HNn.out) (cell_at 1 HNn.out) (by omega) (fun a6 c6 wz h6 x6=>?_)
          have o6:Only [] wd wz:=HOZ.out.trans x6.only (fun q hq=>.inr (HS5.out q (by simpa using hq)))
          replace HOZ:=Lib.hid o6
          have HA6:=Lib.hid h6
          refine hK.out _ _ ⟨cell_at 4 (HOZ.out.heap HBX.out (by simp)),cell_at 1 (HOZ.out.heap HBX.out (by simp))⟩ (fun hH=>?_)
          clear hK K o6 h6 x6 HA5 HS5 HNn
          refine wpAnyH_ready (rs:=[11]) (by kernel_rfl) (by simp) ?_
          refine ready_list rfl (fun K hK=>?_)
          go_simp
          refine (HI1.out wz lo g _ r3 _ B (ej++[(nm,1)]) _ (HI.out.k.quiet HOZ.out) HWB.out (HV1.out.quiet HOZ.out) HB.out HA6.out (by rw [List.length_append];exact hej1)).mono ?_
          rintro en w7 ⟨ve7,v7,rfl,hb7⟩
          have hk7:=hb7.k
          have ht7:=hb7.t
          obtain ⟨r7,hr7⟩:∃ x,x=(blockD r3 bd (ej++[(nm,1)])).1:=⟨_,rfl⟩
          have hxr:=HXR3.out
          rw [← hr7] at hxr hk7
          have hbx7:=ht7.heap (HI.out.k.quiet HOZ.out) (HOZ.out.heap HBX.out (by simp)) (by decide) (by decide)
          have HVj7:=Lib.hid (kept_ss (HVj.out.quiet HOZ.out) (HI.out.k.quiet HOZ.out) HB.out ht7)
          have HI7:=Lib.hid ((HI.out.quiet HOZ.out).state hk7 ht7)
          have HXR4:=Lib.hid hxr
          refine hK.out _ _ ⟨cell_at 4 hbx7,cell_at 1 hbx7⟩ (fun hH=>?_)
          clear hK K hb7 hk7 ht7 hr7 hxr hbx7 hH
          refine wpAnyH_done (by kernel_rfl) ?_ _
          go_wp2_with fail
          refine ⟨⟨j+1,v7,r7,ej,by omega,by simp,HI7,Lib.hid (by rw [HXJ.out,HXR4.out]),HVj7,by omega⟩,?_⟩
          simp [intOf]
          omega
        ·go_simp
         have oN:=(Only.refl [] wd).alloc (.cells #[.string sn,.int .i64 1] 85)
         have hN:=heap_new wd (.cells #[.string sn,.int .i64 1] 85)
         have sN:(wd.alloc (.cells #[.string sn,.int .i64 1] 85)).heap.size=wd.heap.size+1:=Array.size_push _
         obtain ⟨gn,hgn⟩:∃ gn,gn=wd.heap.size:=⟨_,rfl⟩
         rw [← hgn] at hN sN⊢
         generalize wd.alloc (.cells #[.string sn,.int .i64 1] 85)=wa at oN hN sN⊢
         replace HOZ:=Lib.hid (HOZ.out.trans oN (by simp))
         have HNn:=Lib.hid hN
         skip
         have HSN2:=Lib.hid sN
         have HGN:=Lib.hid hgn
         refine hK.out _ _ ⟨cell_at 4 (HOZ.out.heap HBX.out (by simp)),cell_at 1 (HOZ.out.heap HBX.out (by simp))⟩ (fun hH=>?_)
         clear hK K oN hN sN hgn
         refine wpAnyH_ready (rs:=[3]) (by kernel_rfl) (by simp) ?_
         refine ready_list rfl (fun K hK=>?_)
         go_simp
         have oE:=(Only.refl [] wa).alloc (.cells #[] 85)
         have hE:=OKn.empty wa
         have sE:(wa.alloc (.cells #[] 85)).heap.size=wa.heap.size+1:=Array.size_push _
         obtain ⟨ge,hge⟩:∃ ge,ge=wa.heap.size:=⟨_,rfl⟩
         rw [← hge] at hE sE⊢
         generalize wa.alloc (.cells #[] 85)=wb at oE hE sE⊢
         have hgez:wd.heap.size≤ge:=by rw [hge];exact HOZ.out.size
         replace HOZ:=Lib.hid (HOZ.out.trans oE (by simp))
         have HEm:=Lib.hid hE
         replace HNn:=Lib.hid (oE.heap HNn.out (by simp))
         have HSE:=Lib.hid sE
         have HGE:=Lib.hid hge
         refine hK.out _ _ ⟨cell_at 4 (HOZ.out.heap HBX.out (by simp)),cell_at 1 (HOZ.out.heap HBX.out (by simp))⟩ (fun hH=>?_)
         clear hK K oE hE sE hge
         refine wpAnyH_ready (rs:=[5]) (by kernel_rfl) (by simp) ?_
         refine ready_list rfl (fun K hK=>?_)
         refine step_append_kns (by rfl) (.tmp 99) (.tmp 100) (by rfl) (.slice (some ⟨ge,0,none⟩) 0 0) (.slice ua ej.length uc) [] ej (by rfl) HEm.out (by rfl) (HI.out.e.kept HOZ.out (by simp)) (by simp;omega) (fun a5 c5 wc h5 x5=>?_)
         have o5:Only [] wd wc:=HOZ.out.trans x5.only (fun q hq=>.inr (by
          have:=hq
          simp [Value.ownBlock] at this
          omega))
         have s5:∀ q,(Value.slice a5 (([]:Env).length+ej.length) c5).ownBlock=some q→wd.heap.size≤q:=fun q hq=>by
          rcases x5.src q hq with e | e
          ·have:=e
           simp [Value.ownBlock] at this
           omega
          ·exact Nat.le_trans HOZ.out.size e
         replace HNn:=Lib.hid (x5.only.heap HNn.out (by have q1:=HSE.out;have q2:=HGN.out;have q3:=HSN2.out;have q4:=HGE.out;simp [Value.ownBlock];omega))
         replace HOZ:=Lib.hid o5
         simp only [List.length_nil,Nat.zero_add,List.nil_append] at h5 s5⊢
         have HA5:=Lib.hid h5
         have HS5:=Lib.hid s5
         refine hK.out _ _ ⟨cell_at 4 (HOZ.out.heap HBX.out (by simp)),cell_at 1 (HOZ.out.heap HBX.out (by simp))⟩ (fun hH=>?_)
         clear hK K o5 h5 s5 x5 HEm
         refine wpAnyH_ready (rs:=[10]) (by kernel_rfl) (by simp) ?_
         refine ready_list rfl (fun K hK=>?_)
         refine step_append_kn (by rfl) (.tmp 101) (.tmp 105) (by rfl) (.slice a5 ej.length c5) ej (by rfl) HA5.out gn 1 (by rfl) (nm,1) (by rw [← HSN.out];exact cell_at 0 HNn.out) (cell_at 1 HNn.out) (by omega) (fun a6 c6 wz h6 x6=>?_)
         have o6:Only [] wd wz:=HOZ.out.trans x6.only (fun q hq=>.inr (HS5.out q (by simpa using hq)))
         replace HOZ:=Lib.hid o6
         have HA6:=Lib.hid h6
         refine hK.out _ _ ⟨cell_at 4 (HOZ.out.heap HBX.out (by simp)),cell_at 1 (HOZ.out.heap HBX.out (by simp))⟩ (fun hH=>?_)
         clear hK K o6 h6 x6 HA5 HS5 HNn
         refine wpAnyH_ready (rs:=[11]) (by kernel_rfl) (by simp) ?_
         refine ready_list rfl (fun K hK=>?_)
         go_simp
         refine (HI1.out wz lo g _ r3 _ B (ej++[(nm,1)]) _ (HI.out.k.quiet HOZ.out) HWB.out (HV1.out.quiet HOZ.out) HB.out HA6.out (by rw [List.length_append];exact hej1)).mono ?_
         rintro en w7 ⟨ve7,v7,rfl,hb7⟩
         have hk7:=hb7.k
         have ht7:=hb7.t
         obtain ⟨r7,hr7⟩:∃ x,x=(blockD r3 bd (ej++[(nm,1)])).1:=⟨_,rfl⟩
         have hxr:=HXR3.out
         rw [← hr7] at hxr hk7
         have hbx7:=ht7.heap (HI.out.k.quiet HOZ.out) (HOZ.out.heap HBX.out (by simp)) (by decide) (by decide)
         have HVj7:=Lib.hid (kept_ss (HVj.out.quiet HOZ.out) (HI.out.k.quiet HOZ.out) HB.out ht7)
         have HI7:=Lib.hid ((HI.out.quiet HOZ.out).state hk7 ht7)
         have HXR4:=Lib.hid hxr
         refine hK.out _ _ ⟨cell_at 4 hbx7,cell_at 1 hbx7⟩ (fun hH=>?_)
         clear hK K hb7 hk7 ht7 hr7 hxr hbx7 hH
         refine wpAnyH_done (by kernel_rfl) ?_ _
         go_wp2_with fail
         refine ⟨⟨j+1,v7,r7,ej,by omega,by simp,HI7,Lib.hid (by rw [HXJ.out,HXR4.out]),HVj7,by omega⟩,?_⟩
         simp [intOf]
         omega
      ·subst h7
       go_wp2_with fail
       refine K1.mono ?_
       rintro en w5 ⟨rfl,v5,hk5,ht5⟩
       have hbxN:=ht5.heap HI.out.k HBX.out (by decide) (by decide)
       replace HVj:=Lib.hid (kept_ss HVj.out HI.out.k HB.out ht5)
       replace HV0:=Lib.hid (kept_es HV0.out HI.out.k HB.out ht5)
       replace HV1:=Lib.hid (kept_ss HV1.out HI.out.k HB.out ht5)
       replace HV2:=Lib.hid (kept_ss HV2.out HI.out.k HB.out ht5)
       replace HBX:=Lib.hid hbxN
       replace HI:=Lib.hid (HI.out.state hk5 ht5)
       clear hbxN hk5 ht5
       clear K1 y0 y1 y6
       have y3:w5.cell? ⟨gb,3,none⟩=some (.int .i64 nn):=cell_at 3 HBX.out
       by_cases h64:64 < nn
       ·have hxr:=HXR2.out
        rw [if_pos h64] at hxr
        obtain ⟨r3,hr3⟩:∃ r3,r3=r2.fail 11 p:=⟨_,rfl⟩
        have K2:=rfail_any HI.out.k 11 p
        rw [← hr3] at hxr K2
        have HXR3:=Lib.hid hxr
        have y6:w5.cell? ⟨gb,6,none⟩=some (.int .i64 p):=cell_at 6 HBX.out
        clear hxr hr3 HXR2
        go_wp2_with fail
        refine K2.mono ?_
        rintro en w6 ⟨rfl,hk6,ht6⟩
        have hbxN:=ht6.heap HI.out.k HBX.out (by decide) (by decide)
        replace HVj:=Lib.hid (kept_ss HVj.out HI.out.k HB.out ht6)
        replace HV0:=Lib.hid (kept_es HV0.out HI.out.k HB.out ht6)
        replace HV1:=Lib.hid (kept_ss HV1.out HI.out.k HB.out ht6)
        replace HV2:=Lib.hid (kept_ss HV2.out HI.out.k HB.out ht6)
        replace HBX:=Lib.hid hbxN
        replace HI:=Lib.hid (HI.out.state hk6 ht6)
        clear hbxN hk6 ht6
        clear K2 y3 y6
        go_upto_region 22 with (fail)
        have oD:Only [] w6 w6.drew:=(Only.refl [] w6).drew
        refine wp_region_held_drew (S:=fun w'=>w'.cell? ⟨gb,4,none⟩=some (.slice a1 L1 c1)∧w'.cell? ⟨gb,1,none⟩=some (.string sn)) (by kernel_rfl) ⟨cell_kept oD (cell_at 4 HBX.out) (by simp),cell_kept oD (cell_at 1 HBX.out) (by simp)⟩ (fun hH=>?_)
        replace HI:=Lib.hid (HI.out.quiet oD)
        replace HVj:=Lib.hid (HVj.out.quiet oD)
        replace HV1:=Lib.hid (HV1.out.quiet oD)
        replace HBX:=Lib.hid (oD.heap HBX.out (by simp))
        clear oD HV0 HV2
        generalize w6.drew=wd at HI HVj HV1 HBX hH⊢
        have HOZ:=Lib.hid (Only.refl [] wd)
        refine take_list (i:=0) (v:=?_) rfl (by kernel_rfl) (by kernel_rfl) (by kernel_rfl) (fun _ _ _ h=>h) (Or.inl ⟨by rfl,?_⟩) hH ?_
        rotate_left
        ·((intro w hSw;(try dsimp only at hSw);go_simp);try with_reducible rfl)
        simp only [Act.put,List.setIfInBounds_toArray,List.set_cons_zero,List.set_cons_succ]
        refine take_list (i:=1) (v:=?_) rfl (by kernel_rfl) (by kernel_rfl) (by kernel_rfl) (fun _ _ _ h=>h) (Or.inl ⟨by rfl,?_⟩) hH ?_
        rotate_left
        ·((intro w hSw;(try dsimp only at hSw);go_simp);try with_reducible rfl)
        simp only [Act.put,List.setIfInBounds_toArray,List.set_cons_zero,List.set_cons_succ]
        refine take_list (i:=2) (v:=?_) rfl (by kernel_rfl) (by kernel_rfl) (by kernel_rfl) (fun _ _ _ h=>h) (Or.inl ⟨by rfl,?_⟩) hH ?_
        rotate_left
        ·((intro w hSw;(try dsimp only at hSw);go_simp);try with_reducible rfl)
        simp only [Act.put,List.setIfInBounds_toArray,List.set_cons_zero,List.set_cons_succ]
        refine take_list (i:=4) (v:=?_) rfl (by kernel_rfl) (by kernel_rfl) (by kernel_rfl) (fun _ _ _ h=>h) (Or.inl ⟨by rfl,?_⟩) hH ?_
        rotate_left
        ·((intro w hSw;(try dsimp only at hSw);go_simp);try with_reducible rfl)
        simp only [Act.put,List.setIfInBounds_toArray,List.set_cons_zero,List.set_cons_succ]
        refine take_list (i:=6) (v:=?_) rfl (by kernel_rfl) (by kernel_rfl) (by kernel_rfl) (fun _ _ _ h=>h) (Or.inl ⟨by rfl,?_⟩) hH ?_
        rotate_left
        ·((intro w hSw;(try dsimp only at hSw);go_simp);try with_reducible rfl)
        simp only [Act.put,List.setIfInBounds_toArray,List.set_cons_zero,List.set_cons_succ]
        refine take_list (i:=7) (v:=?_) rfl (by kernel_rfl) (by kernel_rfl) (by kernel_rfl) (fun _ _ _ h=>h) (Or.inl ⟨by rfl,?_⟩) hH ?_
        rotate_left
        ·((intro w hSw;(try dsimp only at hSw);go_simp);try with_reducible rfl)
        simp only [Act.put,List.setIfInBounds_toArray,List.set_cons_zero,List.set_cons_succ]
        refine take_list (i:=8) (v:=?_) rfl (by kernel_rfl) (by kernel_rfl) (by kernel_rfl) (fun _ _ _ h=>h) (Or.inl ⟨by rfl,?_⟩) hH ?_
        rotate_left
        ·((intro w hSw;(try dsimp only at hSw);go_simp);try with_reducible rfl)
        simp only [Act.put,List.setIfInBounds_toArray,List.set_cons_zero,List.set_cons_succ]
        refine wpAnyH_ready (rs:=[3,9]) (by kernel_rfl) (by simp) ?_
        refine ready_two rfl rfl (fun K hK=>?_) (fun K hK=>?_)
        ·go_simp
         have oE:=(Only.refl [] wd).alloc (.cells #[] 85)
         have hE:=OKn.empty wd
         have sE:(wd.alloc (.cells #[] 85)).heap.size=wd.heap.size+1:=Array.size_push _
         obtain ⟨ge,hge⟩:∃ ge,ge=wd.heap.size:=⟨_,rfl⟩
         rw [← hge] at hE sE⊢
         generalize wd.alloc (.cells #[] 85)=wa at oE hE sE⊢
         have hgez:wd.heap.size≤ge:=by rw [hge];exact HOZ.out.size
         replace HOZ:=Lib.hid (HOZ.out.trans oE (by simp))
         have HEm:=Lib.hid hE
         skip
         have HSE:=Lib.hid sE
         have HGE:=Lib.hid hge
         refine hK.out _ _ ⟨cell_at 4 (HOZ.out.heap HBX.out (by simp)),cell_at 1 (HOZ.out.heap HBX.out (by simp))⟩ (fun hH=>?_)
         clear hK K oE hE sE hge
         refine wpAnyH_ready (rs:=[5,9]) (by kernel_rfl) (by simp) ?_
         refine ready_two rfl rfl (fun K hK=>?_) (fun K hK=>?_)
         ·skip
          refine step_append_kns (by rfl) (.tmp 99) (.tmp 100) (by rfl) (.slice (some ⟨ge,0,none⟩) 0 0) (.slice ua ej.length uc) [] ej (by rfl) HEm.out (by rfl) (HI.out.e.kept HOZ.out (by simp)) (by simp;omega) (fun a5 c5 wb h5 x5=>?_)
          have o5:Only [] wd wb:=HOZ.out.trans x5.only (fun q hq=>.inr (by
           have:=hq
           simp [Value.ownBlock] at this
           omega))
          have s5:∀ q,(Value.slice a5 (([]:Env).length+ej.length) c5).ownBlock=some q→wd.heap.size≤q:=fun q hq=>by
           rcases x5.src q hq with e | e
           ·have:=e
            simp [Value.ownBlock] at this
            omega
           ·exact Nat.le_trans HOZ.out.size e
          skip
          replace HOZ:=Lib.hid o5
          simp only [List.length_nil,Nat.zero_add,List.nil_append] at h5 s5⊢
          have HA5:=Lib.hid h5
          have HS5:=Lib.hid s5
          refine hK.out _ _ ⟨cell_at 4 (HOZ.out.heap HBX.out (by simp)),cell_at 1 (HOZ.out.heap HBX.out (by simp))⟩ (fun hH=>?_)
          clear hK K o5 h5 s5 x5 HEm
          refine wpAnyH_ready (rs:=[9]) (by kernel_rfl) (by simp) ?_
          refine ready_list rfl (fun K hK=>?_)
          go_simp
          have oN:=(Only.refl [] wb).alloc (.cells #[.string sn,.int .i64 1] 85)
          have hN:=heap_new wb (.cells #[.string sn,.int .i64 1] 85)
          have sN:(wb.alloc (.cells #[.string sn,.int .i64 1] 85)).heap.size=wb.heap.size+1:=Array.size_push _
          obtain ⟨gn,hgn⟩:∃ gn,gn=wb.heap.size:=⟨_,rfl⟩
          rw [← hgn] at hN sN⊢
          generalize wb.alloc (.cells #[.string sn,.int .i64 1] 85)=wc at oN hN sN⊢
          replace HOZ:=Lib.hid (HOZ.out.trans oN (by simp))
          have HNn:=Lib.hid hN
          replace HA5:=Lib.hid (HA5.out.kept oN (by simp))
          have HSN2:=Lib.hid sN
          have HGN:=Lib.hid hgn
          refine hK.out _ _ ⟨cell_at 4 (HOZ.out.heap HBX.out (by simp)),cell_at 1 (HOZ.out.heap HBX.out (by simp))⟩ (fun hH=>?_)
          clear hK K oN hN sN hgn
          refine wpAnyH_ready (rs:=[10]) (by kernel_rfl) (by simp) ?_
          refine ready_list rfl (fun K hK=>?_)
          refine step_append_kn (by rfl) (.tmp 101) (.tmp 105) (by rfl) (.slice a5 ej.length c5) ej (by rfl) HA5.out gn 1 (by rfl) (nm,1) (by rw [← HSN.out];exact cell_at 0 HNn.out) (cell_at 1 HNn.out) (by omega) (fun a6 c6 wz h6 x6=>?_)
          have o6:Only [] wd wz:=HOZ.out.trans x6.only (fun q hq=>.inr (HS5.out q (by simpa using hq)))
          replace HOZ:=Lib.hid o6
          have HA6:=Lib.hid h6
          refine hK.out _ _ ⟨cell_at 4 (HOZ.out.heap HBX.out (by simp)),cell_at 1 (HOZ.out.heap HBX.out (by simp))⟩ (fun hH=>?_)
          clear hK K o6 h6 x6 HA5 HS5 HNn
          refine wpAnyH_ready (rs:=[11]) (by kernel_rfl) (by simp) ?_
          refine ready_list rfl (fun K hK=>?_)
          go_simp
          refine (HI1.out wz lo g _ r3 _ B (ej++[(nm,1)]) _ (HI.out.k.quiet HOZ.out) HWB.out (HV1.out.quiet HOZ.out) HB.out HA6.out (by rw [List.length_append];exact hej1)).mono ?_
          rintro en w7 ⟨ve7,v7,rfl,hb7⟩
          have hk7:=hb7.k
          have ht7:=hb7.t
          obtain ⟨r7,hr7⟩:∃ x,x=(blockD r3 bd (ej++[(nm,1)])).1:=⟨_,rfl⟩
          have hxr:=HXR3.out
          rw [← hr7] at hxr hk7
          have hbx7:=ht7.heap (HI.out.k.quiet HOZ.out) (HOZ.out.heap HBX.out (by simp)) (by decide) (by decide)
          have HVj7:=Lib.hid (kept_ss (HVj.out.quiet HOZ.out) (HI.out.k.quiet HOZ.out) HB.out ht7)
          have HI7:=Lib.hid ((HI.out.quiet HOZ.out).state hk7 ht7)
          have HXR4:=Lib.hid hxr
          refine hK.out _ _ ⟨cell_at 4 hbx7,cell_at 1 hbx7⟩ (fun hH=>?_)
          clear hK K hb7 hk7 ht7 hr7 hxr hbx7 hH
          refine wpAnyH_done (by kernel_rfl) ?_ _
          go_wp2_with fail
          refine ⟨⟨j+1,v7,r7,ej,by omega,by simp,HI7,Lib.hid (by rw [HXJ.out,HXR4.out]),HVj7,by omega⟩,?_⟩
          simp [intOf]
          omega
         ·go_simp
          have oN:=(Only.refl [] wa).alloc (.cells #[.string sn,.int .i64 1] 85)
          have hN:=heap_new wa (.cells #[.string sn,.int .i64 1] 85)
          have sN:(wa.alloc (.cells #[.string sn,.int .i64 1] 85)).heap.size=wa.heap.size+1:=Array.size_push _
          obtain ⟨gn,hgn⟩:∃ gn,gn=wa.heap.size:=⟨_,rfl⟩
          rw [← hgn] at hN sN⊢
          generalize wa.alloc (.cells #[.string sn,.int .i64 1] 85)=wb at oN hN sN⊢
          replace HOZ:=Lib.hid (HOZ.out.trans oN (by simp))
          have HNn:=Lib.hid hN
          replace HEm:=Lib.hid (HEm.out.kept oN (by simp))
          have HSN2:=Lib.hid sN
          have HGN:=Lib.hid hgn
          refine hK.out _ _ ⟨cell_at 4 (HOZ.out.heap HBX.out (by simp)),cell_at 1 (HOZ.out.heap HBX.out (by simp))⟩ (fun hH=>?_)
          clear hK K oN hN sN hgn
          refine wpAnyH_ready (rs:=[5]) (by kernel_rfl) (by simp) ?_
          refine ready_list rfl (fun K hK=>?_)
          refine step_append_kns (by rfl) (.tmp 99) (.tmp 100) (by rfl) (.slice (some ⟨ge,0,none⟩) 0 0) (.slice ua ej.length uc) [] ej (by rfl) HEm.out (by rfl) (HI.out.e.kept HOZ.out (by simp)) (by simp;omega) (fun a5 c5 wc h5 x5=>?_)
          have o5:Only [] wd wc:=HOZ.out.trans x5.only (fun q hq=>.inr (by
           have:=hq
           simp [Value.ownBlock] at this
           omega))
          have s5:∀ q,(Value.slice a5 (([]:Env).length+ej.length) c5).ownBlock=some q→wd.heap.size≤q:=fun q hq=>by
           rcases x5.src q hq with e | e
           ·have:=e
            simp [Value.ownBlock] at this
            omega
           ·exact Nat.le_trans HOZ.out.size e
          replace HNn:=Lib.hid (x5.only.heap HNn.out (by have q1:=HSE.out;have q2:=HGN.out;have q3:=HSN2.out;have q4:=HGE.out;simp [Value.ownBlock];omega))
          replace HOZ:=Lib.hid o5
          simp only [List.length_nil,Nat.zero_add,List.nil_append] at h5 s5⊢
          have HA5:=Lib.hid h5
          have HS5:=Lib.hid s5
          refine hK.out _ _ ⟨cell_at 4 (HOZ.out.heap HBX.out (by simp)),cell_at 1 (HOZ.out.heap HBX.out (by simp))⟩ (fun hH=>?_)
          clear hK K o5 h5 s5 x5 HEm
          refine wpAnyH_ready (rs:=[10]) (by kernel_rfl) (by simp) ?_
          refine ready_list rfl (fun K hK=>?_)
          refine step_append_kn (by rfl) (.tmp 101) (.tmp 105) (by rfl) (.slice a5 ej.length c5) ej (by rfl) HA5.out gn 1 (by rfl) (nm,1) (by rw [← HSN.out];exact cell_at 0 HNn.out) (cell_at 1 HNn.out) (by omega) (fun a6 c6 wz h6 x6=>?_)
          have o6:Only [] wd wz:=HOZ.out.trans x6.only (fun q hq=>.inr (HS5.out q (by simpa using hq)))
          replace HOZ:=Lib.hid o6
          have HA6:=Lib.hid h6
          refine hK.out _ _ ⟨cell_at 4 (HOZ.out.heap HBX.out (by simp)),cell_at 1 (HOZ.out.heap HBX.out (by simp))⟩ (fun hH=>?_)
          clear hK K o6 h6 x6 HA5 HS5 HNn
          refine wpAnyH_ready (rs:=[11]) (by kernel_rfl) (by simp) ?_
          refine ready_list rfl (fun K hK=>?_)
          go_simp
          refine (HI1.out wz lo g _ r3 _ B (ej++[(nm,1)]) _ (HI.out.k.quiet HOZ.out) HWB.out (HV1.out.quiet HOZ.out) HB.out HA6.out (by rw [List.length_append];exact hej1)).mono ?_
          rintro en w7 ⟨ve7,v7,rfl,hb7⟩
          have hk7:=hb7.k
          have ht7:=hb7.t
          obtain ⟨r7,hr7⟩:∃ x,x=(blockD r3 bd (ej++[(nm,1)])).1:=⟨_,rfl⟩
          have hxr:=HXR3.out
          rw [← hr7] at hxr hk7
          have hbx7:=ht7.heap (HI.out.k.quiet HOZ.out) (HOZ.out.heap HBX.out (by simp)) (by decide) (by decide)
          have HVj7:=Lib.hid (kept_ss (HVj.out.quiet HOZ.out) (HI.out.k.quiet HOZ.out) HB.out ht7)
          have HI7:=Lib.hid ((HI.out.quiet HOZ.out).state hk7 ht7)
          have HXR4:=Lib.hid hxr
          refine hK.out _ _ ⟨cell_at 4 hbx7,cell_at 1 hbx7⟩ (fun hH=>?_)
          clear hK K hb7 hk7 ht7 hr7 hxr hbx7 hH
          refine wpAnyH_done (by kernel_rfl) ?_ _
          go_wp2_with fail
          refine ⟨⟨j+1,v7,r7,ej,by omega,by simp,HI7,Lib.hid (by rw [HXJ.out,HXR4.out]),HVj7,by omega⟩,?_⟩
          simp [intOf]
          omega
        ·go_simp
         have oN:=(Only.refl [] wd).alloc (.cells #[.string sn,.int .i64 1] 85)
         have hN:=heap_new wd (.cells #[.string sn,.int .i64 1] 85)
         have sN:(wd.alloc (.cells #[.string sn,.int .i64 1] 85)).heap.size=wd.heap.size+1:=Array.size_push _
         obtain ⟨gn,hgn⟩:∃ gn,gn=wd.heap.size:=⟨_,rfl⟩
         rw [← hgn] at hN sN⊢
         generalize wd.alloc (.cells #[.string sn,.int .i64 1] 85)=wa at oN hN sN⊢
         replace HOZ:=Lib.hid (HOZ.out.trans oN (by simp))
         have HNn:=Lib.hid hN
         skip
         have HSN2:=Lib.hid sN
         have HGN:=Lib.hid hgn
         refine hK.out _ _ ⟨cell_at 4 (HOZ.out.heap HBX.out (by simp)),cell_at 1 (HOZ.out.heap HBX.out (by simp))⟩ (fun hH=>?_)
         clear hK K oN hN sN hgn
         refine wpAnyH_ready (rs:=[3]) (by kernel_rfl) (by simp) ?_
         refine ready_list rfl (fun K hK=>?_)
         go_simp
         have oE:=(Only.refl [] wa).alloc (.cells #[] 85)
         have hE:=OKn.empty wa
         have sE:(wa.alloc (.cells #[] 85)).heap.size=wa.heap.size+1:=Array.size_push _
         obtain ⟨ge,hge⟩:∃ ge,ge=wa.heap.size:=⟨_,rfl⟩
         rw [← hge] at hE sE⊢
         generalize wa.alloc (.cells #[] 85)=wb at oE hE sE⊢
         have hgez:wd.heap.size≤ge:=by rw [hge];exact HOZ.out.size
         replace HOZ:=Lib.hid (HOZ.out.trans oE (by simp))
         have HEm:=Lib.hid hE
         replace HNn:=Lib.hid (oE.heap HNn.out (by simp))
         have HSE:=Lib.hid sE
         have HGE:=Lib.hid hge
         refine hK.out _ _ ⟨cell_at 4 (HOZ.out.heap HBX.out (by simp)),cell_at 1 (HOZ.out.heap HBX.out (by simp))⟩ (fun hH=>?_)
         clear hK K oE hE sE hge
         refine wpAnyH_ready (rs:=[5]) (by kernel_rfl) (by simp) ?_
         refine ready_list rfl (fun K hK=>?_)
         refine step_append_kns (by rfl) (.tmp 99) (.tmp 100) (by rfl) (.slice (some ⟨ge,0,none⟩) 0 0) (.slice ua ej.length uc) [] ej (by rfl) HEm.out (by rfl) (HI.out.e.kept HOZ.out (by simp)) (by simp;omega) (fun a5 c5 wc h5 x5=>?_)
         have o5:Only [] wd wc:=HOZ.out.trans x5.only (fun q hq=>.inr (by
          have:=hq
          simp [Value.ownBlock] at this
          omega))
         have s5:∀ q,(Value.slice a5 (([]:Env).length+ej.length) c5).ownBlock=some q→wd.heap.size≤q:=fun q hq=>by
          rcases x5.src q hq with e | e
          ·have:=e
           simp [Value.ownBlock] at this
           omega
          ·exact Nat.le_trans HOZ.out.size e
         replace HNn:=Lib.hid (x5.only.heap HNn.out (by have q1:=HSE.out;have q2:=HGN.out;have q3:=HSN2.out;have q4:=HGE.out;simp [Value.ownBlock];omega))
         replace HOZ:=Lib.hid o5
         simp only [List.length_nil,Nat.zero_add,List.nil_append] at h5 s5⊢
         have HA5:=Lib.hid h5
         have HS5:=Lib.hid s5
         refine hK.out _ _ ⟨cell_at 4 (HOZ.out.heap HBX.out (by simp)),cell_at 1 (HOZ.out.heap HBX.out (by simp))⟩ (fun hH=>?_)
         clear hK K o5 h5 s5 x5 HEm
         refine wpAnyH_ready (rs:=[10]) (by kernel_rfl) (by simp) ?_
         refine ready_list rfl (fun K hK=>?_)
         refine step_append_kn (by rfl) (.tmp 101) (.tmp 105) (by rfl) (.slice a5 ej.length c5) ej (by rfl) HA5.out gn 1 (by rfl) (nm,1) (by rw [← HSN.out];exact cell_at 0 HNn.out) (cell_at 1 HNn.out) (by omega) (fun a6 c6 wz h6 x6=>?_)
         have o6:Only [] wd wz:=HOZ.out.trans x6.only (fun q hq=>.inr (HS5.out q (by simpa using hq)))
         replace HOZ:=Lib.hid o6
         have HA6:=Lib.hid h6
         refine hK.out _ _ ⟨cell_at 4 (HOZ.out.heap HBX.out (by simp)),cell_at 1 (HOZ.out.heap HBX.out (by simp))⟩ (fun hH=>?_)
         clear hK K o6 h6 x6 HA5 HS5 HNn
         refine wpAnyH_ready (rs:=[11]) (by kernel_rfl) (by simp) ?_
         refine ready_list rfl (fun K hK=>?_)
         go_simp
         refine (HI1.out wz lo g _ r3 _ B (ej++[(nm,1)]) _ (HI.out.k.quiet HOZ.out) HWB.out (HV1.out.quiet HOZ.out) HB.out HA6.out (by rw [List.length_append];exact hej1)).mono ?_
         rintro en w7 ⟨ve7,v7,rfl,hb7⟩
         have hk7:=hb7.k
         have ht7:=hb7.t
         obtain ⟨r7,hr7⟩:∃ x,x=(blockD r3 bd (ej++[(nm,1)])).1:=⟨_,rfl⟩
         have hxr:=HXR3.out
         rw [← hr7] at hxr hk7
         have hbx7:=ht7.heap (HI.out.k.quiet HOZ.out) (HOZ.out.heap HBX.out (by simp)) (by decide) (by decide)
         have HVj7:=Lib.hid (kept_ss (HVj.out.quiet HOZ.out) (HI.out.k.quiet HOZ.out) HB.out ht7)
         have HI7:=Lib.hid ((HI.out.quiet HOZ.out).state hk7 ht7)
         have HXR4:=Lib.hid hxr
         refine hK.out _ _ ⟨cell_at 4 hbx7,cell_at 1 hbx7⟩ (fun hH=>?_)
         clear hK K hb7 hk7 ht7 hr7 hxr hbx7 hH
         refine wpAnyH_done (by kernel_rfl) ?_ _
         go_wp2_with fail
         refine ⟨⟨j+1,v7,r7,ej,by omega,by simp,HI7,Lib.hid (by rw [HXJ.out,HXR4.out]),HVj7,by omega⟩,?_⟩
         simp [intOf]
         omega
       ·have hxr:=HXR2.out
        rw [if_neg h64] at hxr
        obtain ⟨r3,hr3⟩:∃ r3,r3=r2:=⟨_,rfl⟩
        rw [← hr3] at hxr HI
        have HXR3:=Lib.hid hxr
        clear hxr hr3 HXR2
        go_upto_region 22 with (fail)
        have oD:Only [] w5 w5.drew:=(Only.refl [] w5).drew
        refine wp_region_held_drew (S:=fun w'=>w'.cell? ⟨gb,4,none⟩=some (.slice a1 L1 c1)∧w'.cell? ⟨gb,1,none⟩=some (.string sn)) (by kernel_rfl) ⟨cell_kept oD (cell_at 4 HBX.out) (by simp),cell_kept oD (cell_at 1 HBX.out) (by simp)⟩ (fun hH=>?_)
        replace HI:=Lib.hid (HI.out.quiet oD)
        replace HVj:=Lib.hid (HVj.out.quiet oD)
        replace HV1:=Lib.hid (HV1.out.quiet oD)
        replace HBX:=Lib.hid (oD.heap HBX.out (by simp))
        clear oD HV0 HV2
        generalize w5.drew=wd at HI HVj HV1 HBX hH⊢
        have HOZ:=Lib.hid (Only.refl [] wd)
        refine take_list (i:=0) (v:=?_) rfl (by kernel_rfl) (by kernel_rfl) (by kernel_rfl) (fun _ _ _ h=>h) (Or.inl ⟨by rfl,?_⟩) hH ?_
        rotate_left
        ·((intro w hSw;(try dsimp only at hSw);go_simp);try with_reducible rfl)
        simp only [Act.put,List.setIfInBounds_toArray,List.set_cons_zero,List.set_cons_succ]
        refine take_list (i:=1) (v:=?_) rfl (by kernel_rfl) (by kernel_rfl) (by kernel_rfl) (fun _ _ _ h=>h) (Or.inl ⟨by rfl,?_⟩) hH ?_
        rotate_left
        ·((intro w hSw;(try dsimp only at hSw);go_simp);try with_reducible rfl)
        simp only [Act.put,List.setIfInBounds_toArray,List.set_cons_zero,List.set_cons_succ]
        refine take_list (i:=2) (v:=?_) rfl (by kernel_rfl) (by kernel_rfl) (by kernel_rfl) (fun _ _ _ h=>h) (Or.inl ⟨by rfl,?_⟩) hH ?_
        rotate_left
        ·((intro w hSw;(try dsimp only at hSw);go_simp);try with_reducible rfl)
        simp only [Act.put,List.setIfInBounds_toArray,List.set_cons_zero,List.set_cons_succ]
        refine take_list (i:=4) (v:=?_) rfl (by kernel_rfl) (by kernel_rfl) (by kernel_rfl) (fun _ _ _ h=>h) (Or.inl ⟨by rfl,?_⟩) hH ?_
        rotate_left
        ·((intro w hSw;(try dsimp only at hSw);go_simp);try with_reducible rfl)
        simp only [Act.put,List.setIfInBounds_toArray,List.set_cons_zero,List.set_cons_succ]
        refine take_list (i:=6) (v:=?_) rfl (by kernel_rfl) (by kernel_rfl) (by kernel_rfl) (fun _ _ _ h=>h) (Or.inl ⟨by rfl,?_⟩) hH ?_
        rotate_left
        ·((intro w hSw;(try dsimp only at hSw);go_simp);try with_reducible rfl)
        simp only [Act.put,List.setIfInBounds_toArray,List.set_cons_zero,List.set_cons_succ]
        refine take_list (i:=7) (v:=?_) rfl (by kernel_rfl) (by kernel_rfl) (by kernel_rfl) (fun _ _ _ h=>h) (Or.inl ⟨by rfl,?_⟩) hH ?_
        rotate_left
        ·((intro w hSw;(try dsimp only at hSw);go_simp);try with_reducible rfl)
        simp only [Act.put,List.setIfInBounds_toArray,List.set_cons_zero,List.set_cons_succ]
        refine take_list (i:=8) (v:=?_) rfl (by kernel_rfl) (by kernel_rfl) (by kernel_rfl) (fun _ _ _ h=>h) (Or.inl ⟨by rfl,?_⟩) hH ?_
        rotate_left
        ·((intro w hSw;(try dsimp only at hSw);go_simp);try with_reducible rfl)
        simp only [Act.put,List.setIfInBounds_toArray,List.set_cons_zero,List.set_cons_succ]
        refine wpAnyH_ready (rs:=[3,9]) (by kernel_rfl) (by simp) ?_
        refine ready_two rfl rfl (fun K hK=>?_) (fun K hK=>?_)
        ·go_simp
         have oE:=(Only.refl [] wd).alloc (.cells #[] 85)
         have hE:=OKn.empty wd
         have sE:(wd.alloc (.cells #[] 85)).heap.size=wd.heap.size+1:=Array.size_push _
         obtain ⟨ge,hge⟩:∃ ge,ge=wd.heap.size:=⟨_,rfl⟩
         rw [← hge] at hE sE⊢
         generalize wd.alloc (.cells #[] 85)=wa at oE hE sE⊢
         have hgez:wd.heap.size≤ge:=by rw [hge];exact HOZ.out.size
         replace HOZ:=Lib.hid (HOZ.out.trans oE (by simp))
         have HEm:=Lib.hid hE
         skip
         have HSE:=Lib.hid sE
         have HGE:=Lib.hid hge
         refine hK.out _ _ ⟨cell_at 4 (HOZ.out.heap HBX.out (by simp)),cell_at 1 (HOZ.out.heap HBX.out (by simp))⟩ (fun hH=>?_)
         clear hK K oE hE sE hge
         refine wpAnyH_ready (rs:=[5,9]) (by kernel_rfl) (by simp) ?_
         refine ready_two rfl rfl (fun K hK=>?_) (fun K hK=>?_)
         ·skip
          refine step_append_kns (by rfl) (.tmp 99) (.tmp 100) (by rfl) (.slice (some ⟨ge,0,none⟩) 0 0) (.slice ua ej.length uc) [] ej (by rfl) HEm.out (by rfl) (HI.out.e.kept HOZ.out (by simp)) (by simp;omega) (fun a5 c5 wb h5 x5=>?_)
          have o5:Only [] wd wb:=HOZ.out.trans x5.only (fun q hq=>.inr (by
           have:=hq
           simp [Value.ownBlock] at this
           omega))
          have s5:∀ q,(Value.slice a5 (([]:Env).length+ej.length) c5).ownBlock=some q→wd.heap.size≤q:=fun q hq=>by
           rcases x5.src q hq with e | e
           ·have:=e
            simp [Value.ownBlock] at this
            omega
           ·exact Nat.le_trans HOZ.out.size e
          skip
          replace HOZ:=Lib.hid o5
          simp only [List.length_nil,Nat.zero_add,List.nil_append] at h5 s5⊢
          have HA5:=Lib.hid h5
          have HS5:=Lib.hid s5
          refine hK.out _ _ ⟨cell_at 4 (HOZ.out.heap HBX.out (by simp)),cell_at 1 (HOZ.out.heap HBX.out (by simp))⟩ (fun hH=>?_)
          clear hK K o5 h5 s5 x5 HEm
          refine wpAnyH_ready (rs:=[9]) (by kernel_rfl) (by simp) ?_
          refine ready_list rfl (fun K hK=>?_)
          go_simp
          have oN:=(Only.refl [] wb).alloc (.cells #[.string sn,.int .i64 1] 85)
          have hN:=heap_new wb (.cells #[.string sn,.int .i64 1] 85)
          have sN:(wb.alloc (.cells #[.string sn,.int .i64 1] 85)).heap.size=wb.heap.size+1:=Array.size_push _
          obtain ⟨gn,hgn⟩:∃ gn,gn=wb.heap.size:=⟨_,rfl⟩
          rw [← hgn] at hN sN⊢
          generalize wb.alloc (.cells #[.string sn,.int .i64 1] 85)=wc at oN hN sN⊢
          replace HOZ:=Lib.hid (HOZ.out.trans oN (by simp))
          have HNn:=Lib.hid hN
          replace HA5:=Lib.hid (HA5.out.kept oN (by simp))
          have HSN2:=Lib.hid sN
          have HGN:=Lib.hid hgn
          refine hK.out _ _ ⟨cell_at 4 (HOZ.out.heap HBX.out (by simp)),cell_at 1 (HOZ.out.heap HBX.out (by simp))⟩ (fun hH=>?_)
          clear hK K oN hN sN hgn
          refine wpAnyH_ready (rs:=[10]) (by kernel_rfl) (by simp) ?_
          refine ready_list rfl (fun K hK=>?_)
          refine step_append_kn (by rfl) (.tmp 101) (.tmp 105) (by rfl) (.slice a5 ej.length c5) ej (by rfl) HA5.out gn 1 (by rfl) (nm,1) (by rw [← HSN.out];exact cell_at 0 HNn.out) (cell_at 1 HNn.out) (by omega) (fun a6 c6 wz h6 x6=>?_)
          have o6:Only [] wd wz:=HOZ.out.trans x6.only (fun q hq=>.inr (HS5.out q (by simpa using hq)))
          replace HOZ:=Lib.hid o6
          have HA6:=Lib.hid h6
          refine hK.out _ _ ⟨cell_at 4 (HOZ.out.heap HBX.out (by simp)),cell_at 1 (HOZ.out.heap HBX.out (by simp))⟩ (fun hH=>?_)
          clear hK K o6 h6 x6 HA5 HS5 HNn
          refine wpAnyH_ready (rs:=[11]) (by kernel_rfl) (by simp) ?_
          refine ready_list rfl (fun K hK=>?_)
          go_simp
          refine (HI1.out wz lo g _ r3 _ B (ej++[(nm,1)]) _ (HI.out.k.quiet HOZ.out) HWB.out (HV1.out.quiet HOZ.out) HB.out HA6.out (by rw [List.length_append];exact hej1)).mono ?_
          rintro en w7 ⟨ve7,v7,rfl,hb7⟩
          have hk7:=hb7.k
          have ht7:=hb7.t
          obtain ⟨r7,hr7⟩:∃ x,x=(blockD r3 bd (ej++[(nm,1)])).1:=⟨_,rfl⟩
          have hxr:=HXR3.out
          rw [← hr7] at hxr hk7
          have hbx7:=ht7.heap (HI.out.k.quiet HOZ.out) (HOZ.out.heap HBX.out (by simp)) (by decide) (by decide)
          have HVj7:=Lib.hid (kept_ss (HVj.out.quiet HOZ.out) (HI.out.k.quiet HOZ.out) HB.out ht7)
          have HI7:=Lib.hid ((HI.out.quiet HOZ.out).state hk7 ht7)
          have HXR4:=Lib.hid hxr
          refine hK.out _ _ ⟨cell_at 4 hbx7,cell_at 1 hbx7⟩ (fun hH=>?_)
          clear hK K hb7 hk7 ht7 hr7 hxr hbx7 hH
          refine wpAnyH_done (by kernel_rfl) ?_ _
          go_wp2_with fail
          refine ⟨⟨j+1,v7,r7,ej,by omega,by simp,HI7,Lib.hid (by rw [HXJ.out,HXR4.out]),HVj7,by omega⟩,?_⟩
          simp [intOf]
          omega
         ·go_simp
          have oN:=(Only.refl [] wa).alloc (.cells #[.string sn,.int .i64 1] 85)
          have hN:=heap_new wa (.cells #[.string sn,.int .i64 1] 85)
          have sN:(wa.alloc (.cells #[.string sn,.int .i64 1] 85)).heap.size=wa.heap.size+1:=Array.size_push _
          obtain ⟨gn,hgn⟩:∃ gn,gn=wa.heap.size:=⟨_,rfl⟩
          rw [← hgn] at hN sN⊢
          generalize wa.alloc (.cells #[.string sn,.int .i64 1] 85)=wb at oN hN sN⊢
          replace HOZ:=Lib.hid (HOZ.out.trans oN (by simp))
          have HNn:=Lib.hid hN
          replace HEm:=Lib.hid (HEm.out.kept oN (by simp))
          have HSN2:=Lib.hid sN
          have HGN:=Lib.hid hgn
          refine hK.out _ _ ⟨cell_at 4 (HOZ.out.heap HBX.out (by simp)),cell_at 1 (HOZ.out.heap HBX.out (by simp))⟩ (fun hH=>?_)
          clear hK K oN hN sN hgn
          refine wpAnyH_ready (rs:=[5]) (by kernel_rfl) (by simp) ?_
          refine ready_list rfl (fun K hK=>?_)
          refine step_append_kns (by rfl) (.tmp 99) (.tmp 100) (by rfl) (.slice (some ⟨ge,0,none⟩) 0 0) (.slice ua ej.length uc) [] ej (by rfl) HEm.out (by rfl) (HI.out.e.kept HOZ.out (by simp)) (by simp;omega) (fun a5 c5 wc h5 x5=>?_)
          have o5:Only [] wd wc:=HOZ.out.trans x5.only (fun q hq=>.inr (by
           have:=hq
           simp [Value.ownBlock] at this
           omega))
          have s5:∀ q,(Value.slice a5 (([]:Env).length+ej.length) c5).ownBlock=some q→wd.heap.size≤q:=fun q hq=>by
           rcases x5.src q hq with e | e
           ·have:=e
            simp [Value.ownBlock] at this
            omega
           ·exact Nat.le_trans HOZ.out.size e
          replace HNn:=Lib.hid (x5.only.heap HNn.out (by have q1:=HSE.out;have q2:=HGN.out;have q3:=HSN2.out;have q4:=HGE.out;simp [Value.ownBlock];omega))
          replace HOZ:=Lib.hid o5
          simp only [List.length_nil,Nat.zero_add,List.nil_append] at h5 s5⊢
          have HA5:=Lib.hid h5
          have HS5:=Lib.hid s5
          refine hK.out _ _ ⟨cell_at 4 (HOZ.out.heap HBX.out (by simp)),cell_at 1 (HOZ.out.heap HBX.out (by simp))⟩ (fun hH=>?_)
          clear hK K o5 h5 s5 x5 HEm
          refine wpAnyH_ready (rs:=[10]) (by kernel_rfl) (by simp) ?_
          refine ready_list rfl (fun K hK=>?_)
          refine step_append_kn (by rfl) (.tmp 101) (.tmp 105) (by rfl) (.slice a5 ej.length c5) ej (by rfl) HA5.out gn 1 (by rfl) (nm,1) (by rw [← HSN.out];exact cell_at 0 HNn.out) (cell_at 1 HNn.out) (by omega) (fun a6 c6 wz h6 x6=>?_)
          have o6:Only [] wd wz:=HOZ.out.trans x6.only (fun q hq=>.inr (HS5.out q (by simpa using hq)))
          replace HOZ:=Lib.hid o6
          have HA6:=Lib.hid h6
          refine hK.out _ _ ⟨cell_at 4 (HOZ.out.heap HBX.out (by simp)),cell_at 1 (HOZ.out.heap HBX.out (by simp))⟩ (fun hH=>?_)
          clear hK K o6 h6 x6 HA5 HS5 HNn
          refine wpAnyH_ready (rs:=[11]) (by kernel_rfl) (by simp) ?_
          refine ready_list rfl (fun K hK=>?_)
          go_simp
          refine (HI1.out wz lo g _ r3 _ B (ej++[(nm,1)]) _ (HI.out.k.quiet HOZ.out) HWB.out (HV1.out.quiet HOZ.out) HB.out HA6.out (by rw [List.length_append];exact hej1)).mono ?_
          rintro en w7 ⟨ve7,v7,rfl,hb7⟩
          have hk7:=hb7.k
          have ht7:=hb7.t
          obtain ⟨r7,hr7⟩:∃ x,x=(blockD r3 bd (ej++[(nm,1)])).1:=⟨_,rfl⟩
          have hxr:=HXR3.out
          rw [← hr7] at hxr hk7
          have hbx7:=ht7.heap (HI.out.k.quiet HOZ.out) (HOZ.out.heap HBX.out (by simp)) (by decide) (by decide)
          have HVj7:=Lib.hid (kept_ss (HVj.out.quiet HOZ.out) (HI.out.k.quiet HOZ.out) HB.out ht7)
          have HI7:=Lib.hid ((HI.out.quiet HOZ.out).state hk7 ht7)
          have HXR4:=Lib.hid hxr
          refine hK.out _ _ ⟨cell_at 4 hbx7,cell_at 1 hbx7⟩ (fun hH=>?_)
          clear hK K hb7 hk7 ht7 hr7 hxr hbx7 hH
          refine wpAnyH_done (by kernel_rfl) ?_ _
          go_wp2_with fail
          refine ⟨⟨j+1,v7,r7,ej,by omega,by simp,HI7,Lib.hid (by rw [HXJ.out,HXR4.out]),HVj7,by omega⟩,?_⟩
          simp [intOf]
          omega
        ·go_simp
         have oN:=(Only.refl [] wd).alloc (.cells #[.string sn,.int .i64 1] 85)
         have hN:=heap_new wd (.cells #[.string sn,.int .i64 1] 85)
         have sN:(wd.alloc (.cells #[.string sn,.int .i64 1] 85)).heap.size=wd.heap.size+1:=Array.size_push _
         obtain ⟨gn,hgn⟩:∃ gn,gn=wd.heap.size:=⟨_,rfl⟩
         rw [← hgn] at hN sN⊢
         generalize wd.alloc (.cells #[.string sn,.int .i64 1] 85)=wa at oN hN sN⊢
         replace HOZ:=Lib.hid (HOZ.out.trans oN (by simp))
         have HNn:=Lib.hid hN
         skip
         have HSN2:=Lib.hid sN
         have HGN:=Lib.hid hgn
         refine hK.out _ _ ⟨cell_at 4 (HOZ.out.heap HBX.out (by simp)),cell_at 1 (HOZ.out.heap HBX.out (by simp))⟩ (fun hH=>?_)
         clear hK K oN hN sN hgn
         refine wpAnyH_ready (rs:=[3]) (by kernel_rfl) (by simp) ?_
         refine ready_list rfl (fun K hK=>?_)
         go_simp
         have oE:=(Only.refl [] wa).alloc (.cells #[] 85)
         have hE:=OKn.empty wa
         have sE:(wa.alloc (.cells #[] 85)).heap.size=wa.heap.size+1:=Array.size_push _
         obtain ⟨ge,hge⟩:∃ ge,ge=wa.heap.size:=⟨_,rfl⟩
         rw [← hge] at hE sE⊢
         generalize wa.alloc (.cells #[] 85)=wb at oE hE sE⊢
         have hgez:wd.heap.size≤ge:=by rw [hge];exact HOZ.out.size
         replace HOZ:=Lib.hid (HOZ.out.trans oE (by simp))
         have HEm:=Lib.hid hE
         replace HNn:=Lib.hid (oE.heap HNn.out (by simp))
         have HSE:=Lib.hid sE
         have HGE:=Lib.hid hge
         refine hK.out _ _ ⟨cell_at 4 (HOZ.out.heap HBX.out (by simp)),cell_at 1 (HOZ.out.heap HBX.out (by simp))⟩ (fun hH=>?_)
         clear hK K oE hE sE hge
         refine wpAnyH_ready (rs:=[5]) (by kernel_rfl) (by simp) ?_
         refine ready_list rfl (fun K hK=>?_)
         refine step_append_kns (by rfl) (.tmp 99) (.tmp 100) (by rfl) (.slice (some ⟨ge,0,none⟩) 0 0) (.slice ua ej.length uc) [] ej (by rfl) HEm.out (by rfl) (HI.out.e.kept HOZ.out (by simp)) (by simp;omega) (fun a5 c5 wc h5 x5=>?_)
         have o5:Only [] wd wc:=HOZ.out.trans x5.only (fun q hq=>.inr (by
          have:=hq
          simp [Value.ownBlock] at this
          omega))
         have s5:∀ q,(Value.slice a5 (([]:Env).length+ej.length) c5).ownBlock=some q→wd.heap.size≤q:=fun q hq=>by
          rcases x5.src q hq with e | e
          ·have:=e
           simp [Value.ownBlock] at this
           omega
          ·exact Nat.le_trans HOZ.out.size e
         replace HNn:=Lib.hid (x5.only.heap HNn.out (by have q1:=HSE.out;have q2:=HGN.out;have q3:=HSN2.out;have q4:=HGE.out;simp [Value.ownBlock];omega))
         replace HOZ:=Lib.hid o5
         simp only [List.length_nil,Nat.zero_add,List.nil_append] at h5 s5⊢
         have HA5:=Lib.hid h5
         have HS5:=Lib.hid s5
         refine hK.out _ _ ⟨cell_at 4 (HOZ.out.heap HBX.out (by simp)),cell_at 1 (HOZ.out.heap HBX.out (by simp))⟩ (fun hH=>?_)
         clear hK K o5 h5 s5 x5 HEm
         refine wpAnyH_ready (rs:=[10]) (by kernel_rfl) (by simp) ?_
         refine ready_list rfl (fun K hK=>?_)
         refine step_append_kn (by rfl) (.tmp 101) (.tmp 105) (by rfl) (.slice a5 ej.length c5) ej (by rfl) HA5.out gn 1 (by rfl) (nm,1) (by rw [← HSN.out];exact cell_at 0 HNn.out) (cell_at 1 HNn.out) (by omega) (fun a6 c6 wz h6 x6=>?_)
         have o6:Only [] wd wz:=HOZ.out.trans x6.only (fun q hq=>.inr (HS5.out q (by simpa using hq)))
         replace HOZ:=Lib.hid o6
         have HA6:=Lib.hid h6
         refine hK.out _ _ ⟨cell_at 4 (HOZ.out.heap HBX.out (by simp)),cell_at 1 (HOZ.out.heap HBX.out (by simp))⟩ (fun hH=>?_)
         clear hK K o6 h6 x6 HA5 HS5 HNn
         refine wpAnyH_ready (rs:=[11]) (by kernel_rfl) (by simp) ?_
         refine ready_list rfl (fun K hK=>?_)
         go_simp
         refine (HI1.out wz lo g _ r3 _ B (ej++[(nm,1)]) _ (HI.out.k.quiet HOZ.out) HWB.out (HV1.out.quiet HOZ.out) HB.out HA6.out (by rw [List.length_append];exact hej1)).mono ?_
         rintro en w7 ⟨ve7,v7,rfl,hb7⟩
         have hk7:=hb7.k
         have ht7:=hb7.t
         obtain ⟨r7,hr7⟩:∃ x,x=(blockD r3 bd (ej++[(nm,1)])).1:=⟨_,rfl⟩
         have hxr:=HXR3.out
         rw [← hr7] at hxr hk7
         have hbx7:=ht7.heap (HI.out.k.quiet HOZ.out) (HOZ.out.heap HBX.out (by simp)) (by decide) (by decide)
         have HVj7:=Lib.hid (kept_ss (HVj.out.quiet HOZ.out) (HI.out.k.quiet HOZ.out) HB.out ht7)
         have HI7:=Lib.hid ((HI.out.quiet HOZ.out).state hk7 ht7)
         have HXR4:=Lib.hid hxr
         refine hK.out _ _ ⟨cell_at 4 hbx7,cell_at 1 hbx7⟩ (fun hH=>?_)
         clear hK K hb7 hk7 ht7 hr7 hxr hbx7 hH
         refine wpAnyH_done (by kernel_rfl) ?_ _
         go_wp2_with fail
         refine ⟨⟨j+1,v7,r7,ej,by omega,by simp,HI7,Lib.hid (by rw [HXJ.out,HXR4.out]),HVj7,by omega⟩,?_⟩
         simp [intOf]
         omega
     ·rw [if_neg h78] at HXR
      have h7':(k == 7)=false:=by simp only [beq_eq_false_iff_ne];exact fun e=>h78 (.inl e)
      have h8':(k == 8)=false:=by simp only [beq_eq_false_iff_ne];exact fun e=>h78 (.inr e)
      have hL:L0=2:=by rcases HKS.out with h | h | h<;>omega
      subst hL
      obtain ⟨-,gq,k',nn',nm',zs,p',a',c',haq,hq0,z0,z1,z2,z3,z4,hv'⟩:=HV0.out.elem (j:=0) (by omega)
      cases haq
      simp only [Nat.zero_mul,Nat.zero_add,Nat.one_mul,Nat.reduceMul,Nat.reduceAdd] at z0 z1 z2 z3 z4
      have hwz:=wL_mem HWX.out hq0
      have hsq:=sizeL_mem hq0
      obtain ⟨e',hee⟩:∃ e',e'=E.mk k' nn' nm' zs p':=⟨_,rfl⟩
      obtain ⟨sn',hsn'⟩:∃ s,s=strOf nm':=⟨_,rfl⟩
      obtain ⟨L,hL⟩:∃ L,L=zs.length:=⟨_,rfl⟩
      have hev:EV w1 B e' [.int .i64 k',.int .i64 nn',.string sn',.slice a' L c',.int .i64 p']:=by rw [hee,hsn',hL];exact EV.mk' hv'
      rw [← hee] at hsq hq0
      rw [← hsn'] at z2
      rw [← hL] at z3
      obtain ⟨f',hf⟩:∃ f',ys=[e',f']:=by
       have hl:=HL0.out
       match ys,hl,hq0 with
       | [y,z],_,hq0=>exact ⟨z,by simpa using hq0⟩
      have hxr:=HXR.out
      rw [hf] at hxr
      dsimp only at hxr
      obtain ⟨r2,hr2⟩:∃ r2,r2=needR rj e' 1 ej:=⟨_,rfl⟩
      have K1:=rneed_any HI.out.k hev (by omega) HB.out HI.out.e (by omega) 1
      rw [← hr2] at K1 hxr
      have HXR2:=Lib.hid hxr
      have HF:=Lib.hid hf
      have y2:w1.cell? ⟨gb,2,none⟩=some (.slice (some ⟨gq,0,none⟩) 2 c0):=cell_at 2 HBX.out
      clear hwz hsq hee hsn' hL hev hxr hr2 hq0 hv' HXR h1 h6 h78 hf
      go_wp2_with fail
      refine K1.mono ?_
      rintro en w5 ⟨rfl,v5,hk5,ht5⟩
      have hbxN:=ht5.heap HI.out.k HBX.out (by decide) (by decide)
      replace HVj:=Lib.hid (kept_ss HVj.out HI.out.k HB.out ht5)
      replace HV0:=Lib.hid (kept_es HV0.out HI.out.k HB.out ht5)
      replace HV1:=Lib.hid (kept_ss HV1.out HI.out.k HB.out ht5)
      replace HV2:=Lib.hid (kept_ss HV2.out HI.out.k HB.out ht5)
      replace HBX:=Lib.hid hbxN
      replace HI:=Lib.hid (HI.out.state hk5 ht5)
      clear hbxN hk5 ht5
      clear K1 y2 z0 z1 z2 z3 z4
      obtain ⟨-,gq2,k',nn',nm',zs,p',a',c',haq,hq0,z0,z1,z2,z3,z4,hv'⟩:=HV0.out.elem (j:=1) (by omega)
      injection haq with haq
      injection haq with haq _ _
      subst haq
      simp only [Nat.one_mul,Nat.reduceAdd] at z0 z1 z2 z3 z4
      have hsq:=sizeL_mem hq0
      rw [HF.out] at hq0
      have hee:f'=E.mk k' nn' nm' zs p':=by simpa using hq0
      obtain ⟨sn',hsn'⟩:∃ s,s=strOf nm':=⟨_,rfl⟩
      obtain ⟨L,hL⟩:∃ L,L=zs.length:=⟨_,rfl⟩
      have hev:EV w5 B f' [.int .i64 k',.int .i64 nn',.string sn',.slice a' L c',.int .i64 p']:=by rw [hee,hsn',hL];exact EV.mk' hv'
      rw [← hee] at hsq
      rw [← hsn'] at z2
      rw [← hL] at z3
      obtain ⟨r3,hr3⟩:∃ r3,r3=needR r2 f' 1 ej:=⟨_,rfl⟩
      have K2:=rneed_any HI.out.k hev (by omega) HB.out HI.out.e (by omega) 1
      have hxr:=HXR2.out
      rw [← hr3] at K2 hxr
      have HXR3:=Lib.hid hxr
      have y2:w5.cell? ⟨gb,2,none⟩=some (.slice (some ⟨gq,0,none⟩) 2 c0):=cell_at 2 HBX.out
      clear hsq hee hsn' hL hev hxr hr3 hq0 hv' HXR2
      go_wp2_with fail
      refine K2.mono ?_
      rintro en w6 ⟨rfl,v6,hk6,ht6⟩
      have hbxN:=ht6.heap HI.out.k HBX.out (by decide) (by decide)
      replace HVj:=Lib.hid (kept_ss HVj.out HI.out.k HB.out ht6)
      replace HV0:=Lib.hid (kept_es HV0.out HI.out.k HB.out ht6)
      replace HV1:=Lib.hid (kept_ss HV1.out HI.out.k HB.out ht6)
      replace HV2:=Lib.hid (kept_ss HV2.out HI.out.k HB.out ht6)
      replace HBX:=Lib.hid hbxN
      replace HI:=Lib.hid (HI.out.state hk6 ht6)
      clear hbxN hk6 ht6
      clear K2 y2 z0 z1 z2 z3 z4
      go_wp2_with fail
      refine ⟨⟨j+1,v6,r3,ej,by omega,by simp,HI,Lib.hid (by rw [HXJ.out,HXR3.out]),HVj,by omega⟩,?_⟩
      simp [intOf]
      omega
  ·obtain rfl:j=n:=by omega
   have hge:¬ (j:Int) < (j:Int):=by omega
   have hXX:X=(rj,ej):=by rw [HXj.out,HN.out,List.drop_length];unfold blockD;rfl
   have HXX:=Lib.hid hXX
   clear hXX
   go_wp2_with fail
   go_ret
   exact ⟨_,vj,rfl,by rw [HXX.out];exact HI.out⟩
theorem dblock_all (N:Nat) (hN:N≤1000000):CBlkP N:=by
 induction N using Nat.strongRecOn with
 | _ N ih=>exact dblock_step N hN (fun M hM=>ih M hM (by omega))
end Go.Proofs.Ytiaeagpepfmfgaa
