import Derived.Test.YtheanmadognhbaaGreatDoorQat
namespace Go.Proofs.YtheanmadognhbaaGreatDoor
set_option linter.unusedVariables false
set_option linter.unusedSimpArgs false
set_option maxRecDepth 100000
set_option maxHeartbeats 16000000
open Go.RowKit Go.Maps
structure RK (w:World) (lo g:Nat) (v:Value) (r:RS):Prop where
 row:w.heap[g]?=some (.cells #[v,.int .i64 r.code,.int .i64 r.at_] 119 (0,0))
 own:ONm w (g+1) v r.decl
 lo_le:lo≤g
 len:r.decl.length≤16
structure RT (w w':World) (g:Nat) (v v':Value):Prop where
 only:Only (g :: v.ownBlock.toList) w w'
 src:∀ k,v'.ownBlock=some k→v.ownBlock=some k∨w.heap.size≤k
section
variable {w w' w2:World} {lo g:Nat} {v v' v2:Value} {r r':RS}
theorem RK.g_lt (h:RK w lo g v r):g < w.heap.size:=am h.row
theorem RK.own_lo (h:RK w lo g v r) {k:Nat} (hk:v.ownBlock=some k):g+1≤k∧k < w.heap.size:=h.own.lt hk
theorem RK.quiet (h:RK w lo g v r) (ho:Only [] w w'):RK w' lo g v r:=⟨ho.heap h.row (by simp),h.own.keep ho (by simp),h.lo_le,h.len⟩
theorem RT.refl (w:World) (g:Nat) (v:Value):RT w w g v v:=⟨Only.refl _ _,fun k hk=>.inl hk⟩
theorem RT.of_quiet (ho:Only [] w w') (g:Nat) (v:Value):RT w w' g v v:=⟨ho.mono (by simp),fun k hk=>.inl hk⟩
theorem RT.trans (h1:RT w w' g v v') (h2:RT w' w2 g v' v2):RT w w2 g v v2:=by
 refine ⟨h1.only.trans h2.only (fun k hk=>?_),fun k hk=>?_⟩
 ·rcases List.mem_cons.1 hk with rfl | hk
  ·exact .inl (by simp)
  ·rcases h1.src k (by simpa using hk) with e | e
   ·exact .inl (by simp [e])
   ·exact .inr e
 ·rcases h2.src k hk with e | e
  ·exact h1.src k e
  ·exact .inr (Nat.le_trans h1.only.size e)
theorem RT.quiet (h1:RT w w' g v v') (ho:Only [] w' w2):RT w w2 g v v':=h1.trans (RT.of_quiet ho g v')
theorem RT.heap (h:RT w w' g v v') (hr:RK w lo g v r) {k:Nat} {cs:Array Value} {t:TypeId} {fr:Nat×Nat} (hk:w.heap[k]?=some (.cells cs t fr)) (h1:t≠119) (h2:t≠9):w'.heap[k]?=some (.cells cs t fr):=by
 refine h.only.heap hk (fun e=>?_);rcases List.mem_cons.1 e with rfl | e
 ·rw [hr.row] at hk;injection hk with hk
  injection hk with _ e2 _
  exact h1 e2.symm
 ·rcases hr.own.2 with ⟨rfl,_⟩ | ⟨b,cap,cur,rfl,hb,hg,_⟩
  ·simp [Value.ownBlock] at e
  ·have e:k=b:=by simpa [Value.ownBlock] using e
   subst e;rw [hg] at hk;injection hk with hk
   injection hk with _ e2 _
   exact h2 e2.symm
theorem RK.below (hr:RK w lo g v r):∀ k∈g :: v.ownBlock.toList,¬ k < lo:=fun k hk=>by
 rcases List.mem_cons.1 hk with rfl | hk
 ·have:=hr.lo_le;omega
 ·have:=(hr.own_lo (k:=k) (by simpa using hk)).1;have:=hr.lo_le;omega
theorem kC {w:World} (base:Nat) (ty:TypeId) (v:Value) (l:List Sec) (hown:ONm w base v l) (bx capx:Nat) (s:Sec) (h0:w.cell? ⟨bx,0,none⟩=some (.string (ai s))) (hn:l.length≤1048576) (hb:base≤w.heap.size) :
  ∃ a cap w',(Builtin.append_ #[23,23] ty #[v,.slice (some ⟨bx,0,none⟩) 1 capx]).run Tryz.prog w=.ok (.slice a (l.length+1) cap) w'∧ONm w' base (.slice a (l.length+1) cap) (l++[s])∧Ext w v w' (.slice a (l.length+1) cap):=by
 obtain ⟨i,hi,hz⟩:=Option.map_eq_some_iff.1 qH;simp only [Prod.mk.injEq] at hz;obtain ⟨z1,z2,z3⟩:=hz;have hcell:∀ (j:Nat) (u:Value),([.string (ai s)]:List Value)[j]?=some u→w.cell? ((⟨bx,0,none⟩:Addr).add j)=some u:=fun j u hj=>by
  match j with
  | 0=>
   simp at hj;subst hj;have:(⟨bx,0,none⟩:Addr).add 0=⟨bx,0,none⟩:=by simp [Addr.add]
   rw [this];exact h0
  | j+1=>simp at hj
 obtain ⟨v',w',hr,k1,k2,_,k5⟩:=run_append_own_at (P:=Tryz.prog) w base 23 ty 9 i (.string ⟨#[]⟩) 1 16 Tryz.underlying23 hi z1 z2 z3 rfl (by omega) v l.length (nmv l) hown ⟨bx,0,none⟩ 1 capx [.string (ai s)] rfl hcell (by simp [Value.oneCell']) (by unfold maxLen;omega) (by omega) hb;have hsh:∃ a cap,v'=.slice a (l.length+1) cap:=by
  rcases k1.2 with ⟨_,hn⟩ | ⟨g,cap,cur,rfl,_⟩
  ·omega
  ·exact ⟨_,_,rfl⟩
 obtain ⟨a,cap,rfl⟩:=hsh;refine ⟨a,cap,w',hr,?_,Only.of_grown k2,fun g hg=>?_⟩
 ·unfold ONm nmv;rw [List.map_append,List.length_append];exact k1
 ·rcases k5 with k5 | k5
  ·exact .inl (by rw [← k5];exact hg)
  ·rw [k5] at hg;exact .inr (Nat.le_of_eq (Option.some.inj hg))
theorem il {w:World} {ops:Array Oper} {rest:List Oper} {o:Oper} {a:Act} {Q:Exit→Act→World→Prop} (hg:o.guard=none) (s x:Operand) (hop:o.op=Op.call {callee:=Callee.builtin Builtin.append,args:=#[s,x],argTypes:=#[23,23] })
  (base:Nat) (v:Value) (l:List Sec) (hs:a.eval s=v) (hown:ONm w base v l) (bx capx:Nat) (hx:a.eval x=.slice (some ⟨bx,0,none⟩) 1 capx) (y:Sec) (h0:w.cell? ⟨bx,0,none⟩=some (.string (ai y))) (hn:l.length≤1048576) (hb:base≤w.heap.size)
  (hK:∀ a' cap w',ONm w' base (.slice a' (l.length+1) cap) (l++[y])→Ext w v w' (.slice a' (l.length+1) cap)→wpList Tryz.prog ops Q rest (a.put o.dst (.slice a' (l.length+1) cap)) w') :
  wpList Tryz.prog ops Q (o :: rest) a w:=by
 refine wpList_plain hg fun K' hK'=>?_;obtain ⟨a',cap,w',hrun,k1,k2⟩:=kC base o.type v l hown bx capx y h0 hn hb;unfold Oper.wp;simp [execOp,hop,resolve,invoke,builtin,hs,hx,hrun,Result.andThen];exact hK' _ _ (hK _ _ w' k1 k2)
theorem cF (h:RK w lo g v r) (c p:Int):Calls Tryz.prog 62 #[.pointer (some ⟨g,0,none⟩),.int .i64 c,.int .i64 p] w fun e w'=>e=.returned (.tuple #[])∧RK w' lo g v (r.fail c p)∧RT w w' g v v:=by
 have c1:w.cell? ⟨g,1,none⟩=some (.int .i64 r.code):=ab 1 h.row;have c2:w.cell? ⟨g,2,none⟩=some (.int .i64 r.at_):=ab 2 h.row;have g1:=ac 1 h.row;have g2:=ac 2 h.row;have H:=Hd h;obtain ⟨x,hx⟩:∃ x,x=r.code:=⟨_,rfl⟩
 rw [← hx] at c1
 by_cases hc:x=0
 ·have hr:r.fail c p={r with code:=c,at_:=p }:=by unfold RS.fail;rw [if_pos (by rw [← hx];exact hc)]
  subst hc;rw [hr];clear h hr
  go_enter Tryz.func62,Tryz.ntmps62
  go_wp2_with fail
  go_end0;have ho:Only [g] w ((w.setCell ⟨g,1,none⟩ (.int .i64 c)).setCell ⟨g,2,none⟩ (.int .i64 p)):=((Only.refl [g] w).setCell (.inl (by simp)) _).setCell (.inl (by simp)) _;refine ⟨rfl,⟨af (i:=2) (.int .i64 p) (af (i:=1) (.int .i64 c) H.out.row),?_,H.out.lo_le,H.out.len⟩,⟨ho.mono (by simp),fun k hk=>.inl hk⟩⟩;exact H.out.own.keep ho (by simp)
 ·have hr:r.fail c p=r:=by unfold RS.fail;rw [if_neg (by rw [← hx];exact hc)]
  have hc':(x == 0)=false:=by simpa using hc
  rw [hr];clear h hr hc
  go_enter Tryz.func62,Tryz.ntmps62
  go_wp2_with fail
  go_end0;exact ⟨rfl,H.out,RT.refl _ _ _⟩
theorem xm {x y:Sec} {X Y:ByteArray} (hX:X=ai x) (hY:Y=ai y):(X.toList == Y.toList)=decide (x=y):=by
 subst hX;subst hY;rw [ByteArray.toList_eq,ByteArray.toList_eq];simp only [ai];rw [Bool.eq_iff_iff];simp
theorem nm_at {v:Value} {l:List Sec} {B:Nat→Prop} {a:Option Addr} {n c j:Nat} (h:NmV w B (.slice a n c) l) (hj:j < n):∃ b x,a=some ⟨b,0,none⟩∧l[j]?=some x∧w.cell? ⟨b,j,none⟩=some (.string (ai x)):=by
 obtain ⟨a',cap,e,h1,h2⟩:=h;injection e with e1 e2 e3
 subst e1;obtain ⟨x,hx⟩:∃ x,l[j]?=some x:=⟨_,List.getElem?_eq_getElem (by omega)⟩
 rcases h2 with h2 | ⟨b,h3,_,h5⟩
 ·rw [h2] at hx;simp at hx
 ·exact ⟨b,x,h3,hx,h5 j x hx⟩
theorem eS (h:RK w lo g v r) (nm:Sec) (p:Int) :
  Calls Tryz.prog 57 #[.pointer (some ⟨g,0,none⟩),.string (ai nm),.int .i64 p] w fun e w'=>e=.returned (.tuple #[])∧∃ v',RK w' lo g v' (r.declare nm p)∧RT w w' g v v':=by
 obtain ⟨N,hN⟩:∃ N,N=ai nm:=⟨_,rfl⟩
 rw [← hN];obtain ⟨a,cap,rfl⟩:=h.own.shape;obtain ⟨n,hn⟩:∃ n,n=r.decl.length:=⟨_,rfl⟩
 have hlen:=h.len;rw [← hn] at h hlen⊢;have H:=Hd h;have HN:=Hd hN;have HL:=Hd hn;clear hN hn h
 go_enter Tryz.func57,Tryz.ntmps57
 go_wp2_with fail
 go_loopw [6] (fun ix wr=>∃ j:Nat,j≤n∧ix=.int .i64 (j:Int)∧Hid (nm∉r.decl.take j)∧Hid (Only [] w wr)) (fun ix _=>n - (intOf ix).toNat)
 case atStart=>exact ⟨0,Nat.zero_le _,rfl,Hd (by simp),Hd (Only.refl _ _)⟩
 case round=>
  obtain ⟨j,hjn,rfl,HT,HO⟩:=hrel;have hk:=H.out.quiet HO.out;have c0:wr.cell? ⟨g,0,none⟩=some (.slice a n cap):=ab 0 hk.row
  by_cases hlt:j < n
  ·have hlt':(j:Int) < (n:Int):=by omega
   have j0:(0:Int)≤(j:Int):=by omega
   obtain ⟨b,x,rfl,hx,cx⟩:=nm_at (v:=.slice a n cap) hk.own.nmv hlt;obtain ⟨X,hX⟩:∃ X,X=ai x:=⟨_,rfl⟩
   rw [← hX] at cx;have heq:=xm hX HN.out;have htk:r.decl.take (j+1)=r.decl.take j++[x]:=by rw [List.take_add_one,hx];rfl
   by_cases hxe:x=nm
   ·have heq':(X.toList == N.toList)=true:=by rw [heq];simpa using hxe
    have hmem:nm∈r.decl:=by rw [← hxe];exact List.mem_of_getElem? hx
    have hr:r.declare nm p=r.fail 9 p:=by unfold RS.declare;rw [if_pos hmem]
    have HR:=Hd hr;have HK:=Hd hk;clear heq hxe hmem hr hk htk hX hx;(go_wp2_with fail);refine (cF HK.out 9 p).mono ?_;rintro e w5 ⟨rfl,hk5,ht5⟩;have HK5:=Hd (And.intro hk5 ((RT.of_quiet HO.out g (.slice (some ⟨b,0,none⟩) n cap)).trans ht5));clear hk5 ht5;(go_wp2_with fail);(try simp only [Exit.inBlock,Exit.then]);refine bodyPost_ret (results_none rfl _ _ _) rfl ?_;rw [HR.out];exact ⟨rfl,_,HK5.out.1,HK5.out.2⟩
   ·have heq':(X.toList == N.toList)=false:=by rw [heq];simpa using hxe
    have HT2:=Hd (show nm∉r.decl.take (j+1) by
     rw [htk];intro hm;rcases List.mem_append.1 hm with hm | hm
     ·exact HT.out hm
     ·exact hxe (List.mem_singleton.1 hm).symm)
    clear heq hxe hk htk hX hx;(go_wp2_with fail);go_roundw
    case rel=>exact ⟨j+1,by omega,by go_num,HT2,HO⟩
    case measure=>simp [intOf];omega
  ·obtain rfl:j=n:=by omega
   have hnot:nm∉r.decl:=by have:=HT.out;rwa [HL.out,List.take_length] at this
   have HK:=Hd hk;clear hk
   by_cases h16:16≤j
   ·have h16':(16:Int)≤(j:Int):=by omega
    have hr:r.declare nm p=r.fail 15 p:=by unfold RS.declare;rw [if_neg hnot,if_pos (by rw [← HL.out];exact h16)]
    have HR:=Hd hr;clear hr hnot;(go_wp2_with fail);refine (cF HK.out 15 p).mono ?_;rintro e w5 ⟨rfl,hk5,ht5⟩;have HK5:=Hd (And.intro hk5 ((RT.of_quiet HO.out g (.slice a j cap)).trans ht5));clear hk5 ht5;(go_wp2_with fail);(try simp only [Exit.inBlock,Exit.then]);refine bodyPost_ret (results_none rfl _ _ _) rfl ?_;rw [HR.out];exact ⟨rfl,_,HK5.out.1,HK5.out.2⟩
   ·have h16':¬ (16:Int)≤(j:Int):=by omega
    have hr:r.declare nm p={r with decl:=r.decl++[nm] }:=by unfold RS.declare;rw [if_neg hnot,if_neg (by rw [← HL.out];exact h16)]
    have HR:=Hd hr;clear hr hnot;(go_upto_region 7 with (fail));have c0:wr.cell? ⟨g,0,none⟩=some (.slice a j cap):=ab 0 HK.out.row;have f0:=ac 0 HK.out.row;have hgr:=HK.out.g_lt;go_wp2_with (refine il rfl (.tmp 41) (.tmp 43) rfl (g+1) (.slice a j cap) r.decl (by rfl) (HK.out.own.keep ((Only.refl [] wr).alloc (.cells #[.string N] 9)) (by simp)) wr.heap.size 1 (by rfl) nm (by rw [← HN.out];exact ab 0 (ag wr (.cells #[.string N] 9))) (by rw [← HL.out];omega) (by rw [show (wr.alloc (.cells #[.string N] 9)).heap.size=wr.heap.size+1 from Array.size_push _];omega) ?_;intro a' cap' w7 h7 x7;have hr7:w7.heap[g]?=some (.cells #[.slice a j cap,.int .i64 r.code,.int .i64 r.at_] 119 (0,0)):=x7.only.heap (aq _ HK.out.row) (by intro e;have:=(HK.out.own_lo (k:=g) (by simpa using e)).1;omega);have c7:w7.cell? ⟨g,0,none⟩=some (.slice a j cap):=ab 0 hr7;have f7:=ac 0 hr7;have H7:=Hd (And.intro hr7 (And.intro h7 x7));clear hr7 h7 x7)
    go_end0;obtain ⟨hr7,h7,x7⟩:=H7.out;have hl7:(r.decl++[nm]).length=r.decl.length+1:=by simp
    have o7:Only (g :: (Value.slice a j cap).ownBlock.toList) w (w7.setCell ⟨g,0,none⟩ (.slice a' (r.decl.length+1) cap')):=
     (((HO.out.mono (T:=g :: (Value.slice a j cap).ownBlock.toList) (by simp)).alloc _).trans (x7.only.mono (T:=g :: (Value.slice a j cap).ownBlock.toList) (fun k hk=>List.mem_cons_of_mem _ hk)) (fun k hk=>.inl hk)).setCell (.inl (by simp)) _
    have o78:Only [g] w7 (w7.setCell ⟨g,0,none⟩ (.slice a' (r.decl.length+1) cap')):=(Only.refl [g] w7).setCell (.inl (by simp)) _;refine ⟨rfl,.slice a' (r.decl.length+1) cap',?_,o7,fun k hk=>?_⟩
    ·rw [HR.out];exact ⟨af (i:=0) _ hr7,h7.keep o78 (by simp),HK.out.lo_le,by show (r.decl++[nm]).length≤16;rw [hl7,← HL.out];omega⟩
    ·rcases x7.src k hk with e | e
     ·exact .inl e
     ·exact .inr (Nat.le_trans (Nat.le_trans HO.out.size (Nat.le_succ _)) (by rw [show (wr.alloc (.cells #[.string N] 9)).heap.size=wr.heap.size+1 from Array.size_push _] at e;exact e))
end
def kcs (l:List (Sec×Int)):List Value:=(l.map fun x=>[Value.string (ai x.1),Value.int .i64 x.2]).flatten
theorem io:∀ l:List (Sec×Int),(kcs l).length=2*l.length
 | []=>rfl
 | p :: l=>by
  have:=io l;simp only [kcs,List.map_cons,List.flatten_cons,List.length_append,List.length_cons,List.length_nil] at this⊢;omega
theorem kcs_snoc (l:List (Sec×Int)) (x:Sec×Int):kcs (l++[x])=kcs l++[.string (ai x.1),.int .i64 x.2]:=by simp [kcs]
theorem rk:∀ (l:List (Sec×Int)) (i:Nat) (x:Sec×Int),l[i]?=some x→(kcs l)[i*2]?=some (.string (ai x.1))
 | [],i,p,h=>by simp at h
 | q :: l,0,p,h=>by
  simp at h;subst h;rfl
 | q :: l,i+1,p,h=>by
  have:=rk l i p (by simpa using h);have e:(i+1)*2=i*2+1+1:=by omega
  rw [e];exact this
theorem rl:∀ (l:List (Sec×Int)) (i:Nat) (x:Sec×Int),l[i]?=some x→(kcs l)[i*2+1]?=some (.int .i64 x.2)
 | [],i,p,h=>by simp at h
 | q :: l,0,p,h=>by
  simp at h;subst h;rfl
 | q :: l,i+1,p,h=>by
  have:=rl l i p (by simpa using h);have e:(i+1)*2+1=(i*2+1)+1+1:=by omega
  rw [e];exact this
def OKn (w:World) (v:Value) (l:List (Sec×Int)):Prop:=w.ownsRow 0 123 2 v l.length (kcs l)
section
variable {w w':World} {v:Value} {l:List (Sec×Int)}
theorem OKn.nil (w:World):OKn w (.slice none 0 0) []:=World.ownsRow_nil w 0 _ 2
theorem OKn.kept {S:List Nat} (h:OKn w v l) (ho:Only S w w') (hs:∀ k∈S,v.ownBlock≠some k):OKn w' v l:=by
 refine ⟨h.1,?_⟩;rcases h.2 with hn | ⟨g,cap,cur,rfl,hb,hg,r⟩
 ·exact .inl hn
 ·exact .inr ⟨g,cap,cur,rfl,hb,ho.heap hg (fun e=>hs g e rfl),r⟩
theorem OKn.shape (h:OKn w v l):∃ a cap,v=.slice a l.length cap:=by
 rcases h.2 with ⟨rfl,hn⟩ | ⟨g,cap,cur,rfl,hb,hg,r⟩
 ·exact ⟨none,0,by rw [hn]⟩
 ·exact ⟨_,_,rfl⟩
theorem OKn.ty {k:Nat} {t:TypeId} {c:Array Value} {fr:Nat×Nat} (h:OKn w v l) (hk:v.ownBlock=some k) (hg:w.heap[k]?=some (.cells c t fr)):t=123:=by
 rcases h.2 with ⟨rfl,_⟩ | ⟨g,cap,cur,rfl,hb,hg',r⟩
 ·cases hk
 ·obtain rfl:g=k:=by simpa [Value.ownBlock] using hk
  rw [hg'] at hg;simp only [Option.some.injEq,Obj.cells.injEq] at hg;exact hg.2.1.symm
theorem OKn.at_ (h:OKn w v l) {i:Nat} {x:Sec×Int} (hi:l[i]?=some x):∃ g cap,v=.slice (some ⟨g,0,none⟩) l.length cap∧w.cell? ⟨g,i*2,none⟩=some (.string (ai x.1))∧w.cell? ⟨g,i*2+1,none⟩=some (.int .i64 x.2):=by
 have hlt:i < l.length:=(List.getElem?_eq_some_iff.1 hi).1;rcases h.2 with ⟨rfl,hn⟩ | ⟨g,cap,cur,rfl,hb,hg,hc,_,hz,ht⟩
 ·omega
 ·refine ⟨g,cap,rfl,?_,?_⟩
  ·rw [ab _ hg];have h1:=rk l i x hi;rw [← ht,List.getElem?_take_of_lt (by omega)] at h1;simpa using h1
  ·rw [ab _ hg];have h1:=rl l i x hi;rw [← ht,List.getElem?_take_of_lt (by omega)] at h1;simpa using h1
end
theorem xo:(Tryz.prog.info? 123).map (fun i=>(i.zero,i.size,i.bytes))=some (some (.agg #[.string ⟨#[]⟩,.int .i64 0]),2,24):=by kernel_rfl
theorem gU {w:World} (ty:TypeId) (v:Value) (l:List (Sec×Int)) (hown:OKn w v l) (bx capx:Nat) (x:Sec×Int) (h0:w.cell? ⟨bx,0,none⟩=some (.string (ai x.1))) (h1:w.cell? ⟨bx,1,none⟩=some (.int .i64 x.2)) (hn:l.length≤1048576) :
  ∃ a cap w',(Builtin.append_ #[120,120] ty #[v,.slice (some ⟨bx,0,none⟩) 1 capx]).run Tryz.prog w=.ok (.slice a (l.length+1) cap) w'∧OKn w' (.slice a (l.length+1) cap) (l++[x])∧Ext w v w' (.slice a (l.length+1) cap):=by
 obtain ⟨i,hi,hz⟩:=Option.map_eq_some_iff.1 xo;simp only [Prod.mk.injEq] at hz;obtain ⟨z1,z2,z3⟩:=hz;have hcell:∀ (j:Nat) (u:Value),([.string (ai x.1),.int .i64 x.2]:List Value)[j]?=some u→w.cell? ((⟨bx,0,none⟩:Addr).add j)=some u:=fun j u hj=>by
  match j with
  | 0=>
   simp at hj;subst hj;have:(⟨bx,0,none⟩:Addr).add 0=⟨bx,0,none⟩:=by simp [Addr.add]
   rw [this];exact h0
  | 1=>
   simp at hj;subst hj;have:(⟨bx,0,none⟩:Addr).add 1=⟨bx,1,none⟩:=by simp [Addr.add]
   rw [this];exact h1
  | j+2=>simp at hj
 obtain ⟨v',w',hr,k1,k2,_,k5⟩:=run_append_own_at (P:=Tryz.prog) w 0 120 ty 123 i (.agg #[.string ⟨#[]⟩,.int .i64 0]) 2 24 Tryz.underlying120 hi z1 z2 z3 rfl (by omega) v l.length (kcs l) hown ⟨bx,0,none⟩ 1 capx [.string (ai x.1),.int .i64 x.2] rfl hcell (by simp [Value.oneCell']) (by unfold maxLen;omega) (by omega) (Nat.zero_le _);have hsh:∃ a cap,v'=.slice a (l.length+1) cap:=by
  rcases k1.2 with ⟨_,hn⟩ | ⟨g,cap,cur,rfl,_⟩
  ·omega
  ·exact ⟨_,_,rfl⟩
 obtain ⟨a,cap,rfl⟩:=hsh;refine ⟨a,cap,w',hr,?_,Only.of_grown k2,fun g hg=>?_⟩
 ·unfold OKn;rw [kcs_snoc,List.length_append];exact k1
 ·rcases k5 with k5 | k5
  ·exact .inl (by rw [← k5];exact hg)
  ·rw [k5] at hg;exact .inr (Nat.le_of_eq (Option.some.inj hg))
section
variable {w:World} {ops:Array Oper} {rest:List Oper} {o:Oper} {a:Act} {Q:Exit→Act→World→Prop}
theorem aD {K:Act→World→Prop} {E:Prop} (hg:o.guard=none) (s x:Operand) (hop:o.op=Op.call {callee:=Callee.builtin Builtin.append,args:=#[s,x],argTypes:=#[120,120] })
  (v:Value) (l:List (Sec×Int)) (hs:a.eval s=v) (hown:OKn w v l) (bx capx:Nat) (hx:a.eval x=.slice (some ⟨bx,0,none⟩) 1 capx) (y:Sec×Int) (h0:w.cell? ⟨bx,0,none⟩=some (.string (ai y.1))) (h1:w.cell? ⟨bx,1,none⟩=some (.int .i64 y.2)) (hn:l.length≤1048576)
  (hK:∀ a' cap w',OKn w' (.slice a' (l.length+1) cap) (l++[y])→Ext w v w' (.slice a' (l.length+1) cap)→K (a.put o.dst (.slice a' (l.length+1) cap)) w') :
  if Region.wanted o (yielded ops a.tmps)=true then Oper.wp Tryz.prog o a w K Q else E:=by
 have hw:Region.wanted o (yielded ops a.tmps)=true:=by simp [Region.wanted,hg]
 rw [if_pos hw];obtain ⟨a',cap,w',hrun,k1,k2⟩:=gU o.type v l hown bx capx y h0 h1 hn;unfold Oper.wp;simp [execOp,hop,resolve,invoke,builtin,hs,hx,hrun,Result.andThen];exact hK a' cap w' k1 k2
end
theorem tA (l r:List (Sec×Int)):kcs (l++r)=kcs l++kcs r:=by simp [kcs]
theorem kcs_one (l:List (Sec×Int)):∀ u∈kcs l,u.oneCell'=true:=by
 intro u hu;simp only [kcs,List.mem_flatten,List.mem_map] at hu;obtain ⟨_,⟨x,_,rfl⟩,hu⟩:=hu;simp at hu;rcases hu with rfl | rfl<;>rfl
theorem OKn.made (w:World) (x:Sec×Int):OKn (w.alloc (.cells #[.string (ai x.1),.int .i64 x.2] 123)) (.slice (some ⟨w.heap.size,0,none⟩) 1 1) [x]:=
 ⟨rfl,.inr ⟨w.heap.size,1,_,rfl,Nat.zero_le _,ag w _,Nat.le_refl _,by unfold maxLen;omega,rfl,by simp [kcs]⟩⟩
theorem fD {w:World} (ty:TypeId) (v x:Value) (l r:List (Sec×Int)) (hown:OKn w v l) (hx:OKn w x r) (hn:l.length+r.length≤1048576) :
  ∃ a cap w',(Builtin.append_ #[120,120] ty #[v,x]).run Tryz.prog w=.ok (.slice a (l.length+r.length) cap) w'∧OKn w' (.slice a (l.length+r.length) cap) (l++r)∧Ext w v w' (.slice a (l.length+r.length) cap):=by
 obtain ⟨i,hi,hz⟩:=Option.map_eq_some_iff.1 xo;simp only [Prod.mk.injEq] at hz;obtain ⟨z1,z2,z3⟩:=hz
 by_cases h0:r.length=0
 ·obtain rfl:r=[]:=List.eq_nil_of_length_eq_zero h0;obtain ⟨a,cap,rfl⟩:=hown.shape;obtain ⟨ao,capx,rfl⟩:=hx.shape;refine ⟨a,cap,w,cW (P:=Tryz.prog) 0 120 ty 123 i 2 Tryz.underlying120 hi _ _ _ hown ao capx,by simpa using hown,by simpa using Ext.refl w _⟩
 ·rcases hx.2 with ⟨_,hn0⟩ | ⟨g,capx,cur,rfl,_,hg,hcap,_,hsz,htk⟩
  ·omega
  have hcell:∀ (j:Nat) (u:Value),(kcs r)[j]?=some u→w.cell? ((⟨g,0,none⟩:Addr).add j)=some u:=fun j u hj=>by
   have hadd:(⟨g,0,none⟩:Addr).add j=⟨g,j,none⟩:=by unfold Addr.add;split<;>simp_all
   have hlt:j < (kcs r).length:=(List.getElem?_eq_some_iff.1 hj).1;rw [io] at hlt;rw [hadd,ab _ hg];rw [← htk,List.getElem?_take_of_lt (by omega)] at hj;simpa using hj
  obtain ⟨v',w',hr,k1,k2,_,k5⟩:=run_append_own_at (P:=Tryz.prog) w 0 120 ty 123 i (.agg #[.string ⟨#[]⟩,.int .i64 0]) 2 24 Tryz.underlying120 hi z1 z2 z3 rfl (by omega) v l.length (kcs l) hown ⟨g,0,none⟩ r.length capx (kcs r) (by rw [io,Nat.mul_comm]) hcell (kcs_one r) (by unfold maxLen;omega) (by omega) (Nat.zero_le _);have hsh:∃ a cap,v'=.slice a (l.length+r.length) cap:=by
   rcases k1.2 with ⟨_,hn⟩ | ⟨g,cap,cur,rfl,_⟩
   ·omega
   ·exact ⟨_,_,rfl⟩
  obtain ⟨a,cap,rfl⟩:=hsh;refine ⟨a,cap,w',hr,?_,Only.of_grown k2,fun g hg=>?_⟩
  ·unfold OKn;rw [tA,List.length_append];exact k1
  ·rcases k5 with k5 | k5
   ·exact .inl (by rw [← k5];exact hg)
   ·rw [k5] at hg;exact .inr (Nat.le_of_eq (Option.some.inj hg))
section
variable {w:World} {ops:Array Oper} {rest:List Oper} {o:Oper} {a:Act} {Q:Exit→Act→World→Prop}
theorem aA {K:Act→World→Prop} {E:Prop} (hg:o.guard=none) (s x:Operand) (hop:o.op=Op.call {callee:=Callee.builtin Builtin.append,args:=#[s,x],argTypes:=#[120,120] })
  (v xv:Value) (l r:List (Sec×Int)) (hs:a.eval s=v) (hown:OKn w v l) (hx:a.eval x=xv) (hr:OKn w xv r) (hn:l.length+r.length≤1048576)
  (hK:∀ a' cap w',OKn w' (.slice a' (l.length+r.length) cap) (l++r)→Ext w v w' (.slice a' (l.length+r.length) cap)→K (a.put o.dst (.slice a' (l.length+r.length) cap)) w') :
  if Region.wanted o (yielded ops a.tmps)=true then Oper.wp Tryz.prog o a w K Q else E:=by
 have hw:Region.wanted o (yielded ops a.tmps)=true:=by simp [Region.wanted,hg]
 rw [if_pos hw];obtain ⟨a',cap,w',hrun,k1,k2⟩:=fD o.type v xv l r hown hr hn;unfold Oper.wp;simp [execOp,hop,resolve,invoke,builtin,hs,hx,hrun,Result.andThen];exact hK a' cap w' k1 k2
end
section
variable {w:World} {ops:Array Oper} {rest:List Oper} {o:Oper} {a:Act} {Q:Exit→Act→World→Prop}
theorem eA (hg:o.guard=none) (s x:Operand) (hop:o.op=Op.call {callee:=Callee.builtin Builtin.append,args:=#[s,x],argTypes:=#[120,120] })
  (v:Value) (l:List (Sec×Int)) (hs:a.eval s=v) (hown:OKn w v l) (bx capx:Nat) (hx:a.eval x=.slice (some ⟨bx,0,none⟩) 1 capx) (y:Sec×Int) (h0:w.cell? ⟨bx,0,none⟩=some (.string (ai y.1))) (h1:w.cell? ⟨bx,1,none⟩=some (.int .i64 y.2)) (hn:l.length≤1048576)
  (hK:∀ a' cap w',OKn w' (.slice a' (l.length+1) cap) (l++[y])→Ext w v w' (.slice a' (l.length+1) cap)→wpList Tryz.prog ops Q rest (a.put o.dst (.slice a' (l.length+1) cap)) w'):wpList Tryz.prog ops Q (o :: rest) a w:=by
 refine wpList_plain hg fun K' hK'=>?_;obtain ⟨a',cap,w',hrun,k1,k2⟩:=gU o.type v l hown bx capx y h0 h1 hn;unfold Oper.wp;simp [execOp,hop,resolve,invoke,builtin,hs,hx,hrun,Result.andThen];exact hK' _ _ (hK _ _ w' k1 k2)
theorem ip (hg:o.guard=none) (s x:Operand) (hop:o.op=Op.call {callee:=Callee.builtin Builtin.append,args:=#[s,x],argTypes:=#[120,120] })
  (v xv:Value) (l r:List (Sec×Int)) (hs:a.eval s=v) (hown:OKn w v l) (hx:a.eval x=xv) (hr:OKn w xv r) (hn:l.length+r.length≤1048576)
  (hK:∀ a' cap w',OKn w' (.slice a' (l.length+r.length) cap) (l++r)→Ext w v w' (.slice a' (l.length+r.length) cap)→wpList Tryz.prog ops Q rest (a.put o.dst (.slice a' (l.length+r.length) cap)) w'):wpList Tryz.prog ops Q (o :: rest) a w:=by
 refine wpList_plain hg fun K' hK'=>?_;obtain ⟨a',cap,w',hrun,k1,k2⟩:=fD o.type v xv l r hown hr hn;unfold Oper.wp;simp [execOp,hop,resolve,invoke,builtin,hs,hx,hrun,Result.andThen];exact hK' _ _ (hK _ _ w' k1 k2)
end
theorem OKn.empty (w:World):OKn (w.alloc (.cells #[] 123)) (.slice (some ⟨w.heap.size,0,none⟩) 0 0) []:=
 ⟨rfl,.inr ⟨w.heap.size,0,_,rfl,Nat.zero_le _,ag w _,Nat.le_refl _,by unfold maxLen;omega,rfl,rfl⟩⟩
theorem OKn.rt {w w':World} {lo g:Nat} {v v' x:Value} {r:RS} {l:List (Sec×Int)} (h:OKn w x l) (hr:RK w lo g v r) (ht:RT w w' g v v'):OKn w' x l:=by
 refine ⟨h.1,?_⟩;rcases h.2 with hn | ⟨b,cap,cur,rfl,hb,hg,q⟩
 ·exact .inl hn
 ·exact .inr ⟨b,cap,cur,rfl,hb,ht.heap hr hg (by decide) (by decide),q⟩
theorem RK.ext {w w':World} {lo g:Nat} {v x x':Value} {r:RS} {l:List (Sec×Int)} (hr:RK w lo g v r) (h:OKn w x l) (he:Ext w x w' x'):RK w' lo g v r:=by
 have hk:∀ k,x.ownBlock=some k→∀ cs t fr,w.heap[k]?=some (.cells cs t fr)→t=123:=fun k hk cs t fr hg=>h.ty hk hg;refine ⟨he.only.heap hr.row (fun e=>?_),?_,hr.lo_le,hr.len⟩
 ·exact absurd (hk g (by simpa using e) _ _ _ hr.row) (by decide)
 ·refine ⟨hr.own.1,?_⟩;rcases hr.own.2 with hn | ⟨b,cap,cur,rfl,hb,hg,q⟩
  ·exact .inl hn
  ·exact .inr ⟨b,cap,cur,rfl,hb,he.only.heap hg (fun e=>absurd (hk b (by simpa using e) _ _ _ hg) (by decide)),q⟩
end Go.Proofs.YtheanmadognhbaaGreatDoor
