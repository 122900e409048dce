import Derived.Test.YtcebchffcmpfeaaGreatXdt
import Derived.Deep.MidRow
import Derived.Laws.CopyRow
namespace Go.Proofs.YtcebchffcmpfeaaGreat
set_option linter.unusedVariables false
set_option linter.unusedSimpArgs false
set_option linter.unusedSectionVars false
set_option maxRecDepth 100000
set_option maxHeartbeats 16000000
open Go.RowKit Go.Maps
def rZ:RowT Int:=⟨3,26,1,fun z=>[.int .i64 z],.int .i64 0,8,Tryz.underlying26,by kernel_rfl,rfl,by omega,by omega,fun _=>rfl,fun x u hu=>by simp at hu;rcases hu with rfl;rfl⟩
theorem OR.shrink {α:Type} {R:RowT α} {w:World} {base n cap m:Nat} {a:Option Addr} {l:List α} (h:OR R w base (.slice a n cap) l) (ha:a≠none) (hm:m≤n):OR R w base (.slice a m cap) (l.take m):=by
 obtain ⟨b,c,e⟩:=h.shape;injection e with _ e1 _
 have hl:(l.take m).length=m:=by rw [List.length_take];omega
 have hcs:R.cs (l.take m)=(R.cs l).take (m*R.k):=by
  have:R.cs l=R.cs (l.take m)++R.cs (l.drop m):=by rw [← R.cs_append,List.take_append_drop]
  have e:=congrArg (List.take (m*R.k)) this;rw [List.take_append_of_le_length (by rw [R.cs_length,hl];exact Nat.le_refl _),List.take_of_length_le (l:=R.cs (l.take m)) (by rw [R.cs_length,hl];exact Nat.le_refl _)] at e;exact e.symm
 unfold OR;refine ⟨by rw [R.cs_length],?_⟩;rcases h.2 with ⟨h1,-⟩ | ⟨g,cap',cur,h1,h2,h3,h4,h5,h6,h7⟩
 ·injection h1 with h1
  exact absurd h1 ha
 ·injection h1 with h1 h8 h9
  subst h1 h9;rw [hl];refine .inr ⟨g,cap,cur,rfl,h2,h3,by omega,h5,h6,?_⟩;rw [hcs,← h7,List.take_take];congr 1;have:m*R.k≤l.length*R.k:=Nat.mul_le_mul_right _ (by omega);omega
def dy (q:Int) (pg:List Int) (k:List Value) (lo:List Int) (t:List Value):List Value:=iv (q :: pg)++(k++(iv lo++t))
section
variable {q:Int} {pg lo:List Int} {k t:List Value} (h1:pg.length=60) (h2:k.length=4) (h3:lo.length=64)
include h1
theorem qs {i:Nat} (hi:i < 61):(dy q pg k lo t)[i]?=(iv (q :: pg))[i]?:=by
 unfold dy;rw [List.getElem?_append_left (by rw [aB,List.length_cons,h1];exact hi)]
theorem mRow_sp (m:List Int) (hm:m.length=61):((dy q pg k lo t).take 0++iv m++(dy q pg k lo t).drop (0+(iv m).length))=iv m++(k++(iv lo++t)):=by
 have e:(iv (q :: pg)).length=61:=by rw [aB,List.length_cons,h1]
 have e2:(iv m).length=61:=by rw [aB,hm]
 unfold dy;rw [List.take_zero,List.nil_append,Nat.zero_add,e2,List.drop_append_of_le_length (by omega),List.drop_of_length_le (by omega),List.nil_append]
include h2
theorem mRow_k {i:Nat} (hi:i < 4):(dy q pg k lo t)[61+i]?=k[i]?:=by
 have e:(iv (q :: pg)).length=61:=by rw [aB,List.length_cons,h1]
 unfold dy;rw [List.getElem?_append_right (by omega),e,Nat.add_sub_cancel_left,List.getElem?_append_left (by omega)]
include h3
theorem mRow_l {i:Nat} (hi:i < 64):(dy q pg k lo t)[65+i]?=some (.int .i64 (lo.getD i 0)):=by
 have e:(iv (q :: pg)).length=61:=by rw [aB,List.length_cons,h1]
 unfold dy;rw [List.getElem?_append_right (by omega),e,show 65+i - 61=4+i by omega,List.getElem?_append_right (by omega),h2,Nat.add_sub_cancel_left,List.getElem?_append_left (by rw [aB];omega)];unfold iv;rw [List.getElem?_map,List.getD_eq_getElem?_getD,List.getElem?_eq_getElem (by omega)];rfl
theorem nU {i:Nat}:(dy q pg k lo t)[129+i]?=t[i]?:=by
 have e:(iv (q :: pg)).length=61:=by rw [aB,List.length_cons,h1]
 have e3:(iv lo).length=64:=by rw [aB,h3]
 unfold dy;rw [List.getElem?_append_right (by omega),e,show 129+i - 61=68+i by omega,List.getElem?_append_right (by omega),h2,show 68+i - 4=64+i by omega,List.getElem?_append_right (by omega),e3,Nat.add_sub_cancel_left]
theorem mRow_sl {i:Nat} (hi:i < 64) (z:Int):(dy q pg k lo t).set (65+i) (.int .i64 z)=dy q pg k (lo.set i z) t:=by
 have e:(iv (q :: pg)).length=61:=by rw [aB,List.length_cons,h1]
 unfold dy;rw [List.set_append_right _ _ (by omega),e,show 65+i - 61=4+i by omega,List.set_append_right _ _ (by omega),h2,Nat.add_sub_cancel_left,List.set_append_left _ _ (by rw [aB];omega)];congr 3;simp [iv,List.map_set]
theorem wV {i:Nat} (v:Value):(dy q pg k lo t).set (129+i) v=dy q pg k lo (t.set i v):=by
 have e:(iv (q :: pg)).length=61:=by rw [aB,List.length_cons,h1]
 have e3:(iv lo).length=64:=by rw [aB,h3]
 unfold dy;rw [List.set_append_right _ _ (by omega),e,show 129+i - 61=68+i by omega,List.set_append_right _ _ (by omega),h2,show 68+i - 4=64+i by omega,List.set_append_right _ _ (by omega),e3,Nat.add_sub_cancel_left]
end
structure MV (w0 w:World) (g:Nat) (q:Int) (c:Cd) (a1:Option Addr) (n1 c1:Nat) (a2:Option Addr) (n2 c2:Nat) (s:Mc) (v:Value):Prop where
 row:w.heap[g]?=some (.cells (dy q s.pg [.int .i64 c.params,.int .i64 c.locals,.slice a1 n1 c1,.slice a2 n2 c2] s.lo [v,.int .i64 (s.at_:Int),.int .i64 (s.n:Int),.int .i64 s.gv]).toArray 70 (0,0))
 st:OR rZ w w0.heap.size v s.st.reverse
 lo:s.lo.length=64
 pg:CW s.pg
 only:Only [] w0 w
 new:w0.heap.size≤g
 code:CV w0 c a1 n1 c1 a2 n2 c2
def VTo (w:World) (g:Nat) (v:Value) (w':World):Prop:=Only (g :: v.ownBlock.toList) w w'
section
variable {w0 w w':World} {g:Nat} {q:Int} {c:Cd} {a1 a2:Option Addr} {n1 c1 n2 c2:Nat} {s:Mc} {v:Value}
theorem MV.len (h:MV w0 w g q c a1 n1 c1 a2 n2 c2 s v):s.pg.length=60:=h.pg.len
theorem MV.cell (h:MV w0 w g q c a1 n1 c1 a2 n2 c2 s v) (i:Nat):w.cell? ⟨g,i,none⟩=(dy q s.pg [.int .i64 c.params,.int .i64 c.locals,.slice a1 n1 c1,.slice a2 n2 c2] s.lo [v,.int .i64 (s.at_:Int),.int .i64 (s.n:Int),.int .i64 s.gv])[i]?:=by
 rw [ab i h.row,List.getElem?_toArray]
theorem MV.free (h:MV w0 w g q c a1 n1 c1 a2 n2 c2 s v) (i:Nat):w.frozen? ⟨g,i,none⟩=false:=ae i h.row
theorem MV.ins (h:MV w0 w g q c a1 n1 c1 a2 n2 c2 s v):w.cell? ⟨g,63,none⟩=some (.slice a1 n1 c1):=by rw [h.cell,show 63=61+2 from rfl,mRow_k h.len rfl (by omega)];rfl
theorem MV.lps (h:MV w0 w g q c a1 n1 c1 a2 n2 c2 s v):w.cell? ⟨g,64,none⟩=some (.slice a2 n2 c2):=by rw [h.cell,show 64=61+3 from rfl,mRow_k h.len rfl (by omega)];rfl
theorem MV.loc (h:MV w0 w g q c a1 n1 c1 a2 n2 c2 s v) {i:Nat} (hi:i < 64):w.cell? ⟨g,65+i,none⟩=some (.int .i64 (s.lo.getD i 0)):=by rw [h.cell,mRow_l h.len rfl h.lo hi]
theorem MV.stk (h:MV w0 w g q c a1 n1 c1 a2 n2 c2 s v):w.cell? ⟨g,129,none⟩=some v:=by rw [h.cell,show 129=129+0 from rfl,nU h.len rfl h.lo];rfl
theorem MV.plc (h:MV w0 w g q c a1 n1 c1 a2 n2 c2 s v):w.cell? ⟨g,130,none⟩=some (.int .i64 (s.at_:Int)):=by rw [h.cell,show 130=129+1 from rfl,nU h.len rfl h.lo];rfl
theorem MV.cnt (h:MV w0 w g q c a1 n1 c1 a2 n2 c2 s v):w.cell? ⟨g,131,none⟩=some (.int .i64 (s.n:Int)):=by rw [h.cell,show 131=129+2 from rfl,nU h.len rfl h.lo];rfl
theorem MV.giv (h:MV w0 w g q c a1 n1 c1 a2 n2 c2 s v):w.cell? ⟨g,132,none⟩=some (.int .i64 s.gv):=by rw [h.cell,show 132=129+3 from rfl,nU h.len rfl h.lo];rfl
theorem MV.lt (h:MV w0 w g q c a1 n1 c1 a2 n2 c2 s v):g < w.heap.size:=ak h.row
theorem MV.ne (h:MV w0 w g q c a1 n1 c1 a2 n2 c2 s v):v.ownBlock≠some g:=fun e=>by have:=h.st.ty e h.row;revert this;decide
theorem MV.quiet (h:MV w0 w g q c a1 n1 c1 a2 n2 c2 s v) (ho:Only [] w w'):MV w0 w' g q c a1 n1 c1 a2 n2 c2 s v:=
 ⟨ho.heap h.row (by simp),h.st.quiet ho,h.lo,h.pg,h.only.trans ho (by simp),h.new,h.code⟩
theorem MV.off (h:MV w0 w g q c a1 n1 c1 a2 n2 c2 s v) (hm:VTo w g v w') {b:Nat} {cs:Array Value} {t:TypeId} (hb:w.heap[b]?=some (.cells cs t (0,0))) (h1:t≠70) (h2:t≠3):w'.heap[b]?=some (.cells cs t (0,0)):=by
 refine hm.heap hb ?_;simp only [List.mem_cons,Option.mem_toList,not_or];refine ⟨fun e=>?_,fun e=>?_⟩
 ·subst e;have:=h.row;rw [hb] at this;simp only [Option.some.injEq,Obj.cells.injEq] at this;exact h1 this.2.1
 ·exact h2 (h.st.ty e hb)
theorem MV.since (h:MV w0 w g q c a1 n1 c1 a2 n2 c2 s v) (hm:VTo w g v w'):Only [] w0 w':=h.only.trans hm fun k hk=>.inr (by
 simp only [List.mem_cons,Option.mem_toList] at hk;rcases hk with rfl | hk
 ·exact h.new
 ·exact (h.st.lt hk).1)
theorem MV.put (h:MV w0 w g q c a1 n1 c1 a2 n2 c2 s v) {s':Mc} (i:Nat) (u:Value) (e1:s'.pg=s.pg) (e2:s'.lo=s.lo) (e3:s'.st=s.st)
  (e:[v,.int .i64 (s.at_:Int),.int .i64 (s.n:Int),.int .i64 s.gv].set i u=[v,.int .i64 (s'.at_:Int),.int .i64 (s'.n:Int),.int .i64 s'.gv]):MV w0 (w.setCell ⟨g,129+i,none⟩ u) g q c a1 n1 c1 a2 n2 c2 s' v∧VTo w g v (w.setCell ⟨g,129+i,none⟩ u):=by
 have ho:Only [g] w (w.setCell ⟨g,129+i,none⟩ u):=oc;have hr:=af (i:=129+i) u h.row;rw [List.setIfInBounds_toArray,wV h.len rfl h.lo,e] at hr;have hm:VTo w g v (w.setCell ⟨g,129+i,none⟩ u):=ho.mono (by simp);refine ⟨⟨by rw [e1,e2];exact hr,by rw [e3];exact h.st.kept ho (by intro k hk;rw [List.mem_singleton.1 hk];exact h.ne),by rw [e2];exact h.lo,by rw [e1];exact h.pg,h.since hm,h.new,h.code⟩,hm⟩
theorem MV.setLoc (h:MV w0 w g q c a1 n1 c1 a2 n2 c2 s v) {i:Nat} (hi:i < 64) (z:Int):MV w0 (w.setCell ⟨g,65+i,none⟩ (.int .i64 z)) g q c a1 n1 c1 a2 n2 c2 {s with lo:=s.lo.set i z } v∧VTo w g v (w.setCell ⟨g,65+i,none⟩ (.int .i64 z)):=by
 have ho:Only [g] w (w.setCell ⟨g,65+i,none⟩ (.int .i64 z)):=oc;have hr:=af (i:=65+i) (.int .i64 z) h.row;rw [List.setIfInBounds_toArray,mRow_sl h.len rfl h.lo hi] at hr;have hm:VTo w g v (w.setCell ⟨g,65+i,none⟩ (.int .i64 z)):=ho.mono (by simp);exact ⟨⟨hr,h.st.kept ho (by intro k hk;rw [List.mem_singleton.1 hk];exact h.ne),by simpa using h.lo,h.pg,h.since hm,h.new,h.code⟩,hm⟩
end
section
variable {w0 w w':World} {g:Nat} {q:Int} {c:Cd} {a1 a2:Option Addr} {n1 c1 n2 c2:Nat} {s:Mc} {v:Value}
theorem MV.restack (h:MV w0 w g q c a1 n1 c1 a2 n2 c2 s v) {w2:World} {v2:Value} {l:List Int} (ho:Only v.ownBlock.toList w w2) (hst:OR rZ w2 w0.heap.size v2 l.reverse) :
  w2.cell? ⟨g,129,none⟩=some v∧w2.frozen? ⟨g,129,none⟩=false∧MV w0 (w2.setCell ⟨g,129,none⟩ v2) g q c a1 n1 c1 a2 n2 c2 {s with st:=l } v2∧VTo w g v (w2.setCell ⟨g,129,none⟩ v2):=by
 have hne:g∉v.ownBlock.toList:=fun hm=>h.ne (by simpa using hm);have hr:=ho.heap h.row hne;have h129:w2.cell? ⟨g,129,none⟩=some v:=by
  rw [ab 129 hr,List.getElem?_toArray,show 129=129+0 from rfl,nU h.len rfl h.lo];rfl
 have oS:Only [g] w2 (w2.setCell ⟨g,129,none⟩ v2):=oc;have hr2:=af (i:=129) v2 hr;rw [List.setIfInBounds_toArray,show 129=129+0 from rfl,wV h.len rfl h.lo] at hr2;have hne2:v2.ownBlock≠some g:=fun e=>by have:=hst.ty e hr;revert this;decide
 have hm:VTo w g v (w2.setCell ⟨g,129,none⟩ v2):=(ho.mono (T:=g :: v.ownBlock.toList) (fun k hk=>List.mem_cons_of_mem _ hk)).trans oS (fun k hk=>.inl (by rw [List.mem_singleton.1 hk];simp));exact ⟨h129,ae 129 hr,⟨hr2,hst.kept oS (by intro k hk;rw [List.mem_singleton.1 hk];exact hne2),h.lo,h.pg,h.since hm,h.new,h.code⟩,hm⟩
theorem fc (h:MV w0 w g q c a1 n1 c1 a2 n2 c2 s v) (hl:s.st.length≤1000) (z:Int) :
  Calls Tryz.prog 71 #[.pointer (some ⟨g,0,none⟩),.int .i64 z] w fun e w'=>e=.returned (.tuple #[])∧∃ v',MV w0 w' g q c a1 n1 c1 a2 n2 c2 {s with st:=z :: s.st } v'∧VTo w g v w':=by
 have o1:Only [] w (w.alloc (.cells #[.int .i64 z] 3)):=(Only.refl _ _).alloc _;have hN:=ag w (.cells #[.int .i64 z] 3);have hn:s.st.reverse.length+1=s.st.length+1:=by simp
 have hll:s.st.reverse++[z]=(z :: s.st).reverse:=by simp
 have hsz:w0.heap.size≤(w.alloc (.cells #[.int .i64 z] 3)).heap.size:=Nat.le_trans h.only.size o1.size;have k129:=h.stk;have HST:=Hd (h.st.quiet o1);have HN:=Hd hN;have HSZ:=Hd hsz;have HLL:=Hd (And.intro hn hll);have HH:=Hd h;have HO:=Hd o1;obtain ⟨vs,hvs⟩:∃ x,x=s.st:=⟨_,rfl⟩
 clear o1 hN hn hll hsz h
 go_enter Tryz.func71,Tryz.ntmps71
 go_wp2_with (refine az (R:=rZ) rfl (.tmp 8) (.tmp 10) rfl w0.heap.size v s.st.reverse (by rfl) HST.out (.slice (some ⟨w.heap.size,0,none⟩) 1 1) [z] (by rfl) (dz _ _ _ (fun j y hj=>by rw [ab j HN.out];simpa [rZ] using hj)) (s.st.length+1) HLL.out.1 _ HLL.out.2 (by omega) HSZ.out ?_;intro ra rc w2 h2 x2;obtain ⟨r1,r2,r3,r4⟩:=(HH.out.quiet HO.out).restack x2.only h2;have R3:=Hd r3;have R4:=Hd r4;clear h2 x2 r3 r4 k129)
 first | go_end0 | ((try simp only [Exit.inBlock,Exit.then]);refine bodyPost_ret (results_none rfl _ _ _) rfl ?_)
 exact ⟨rfl,_,R3.out,(HO.out.mono (by simp)).trans R4.out (fun k hk=>.inl hk)⟩
theorem VTo.refl (w:World) (g:Nat) (v:Value):VTo w g v w:=Only.refl _ _
theorem VTo.after {w2:World} (ho:Only [] w w2) (h:VTo w2 g v w'):VTo w g v w':=(ho.mono (by simp)).trans h (fun k hk=>.inl hk)
theorem VTo.on {w2:World} (h:VTo w g v w2) (ho:Only [] w2 w'):VTo w g v w':=h.trans ho (by simp)
theorem bC (h:MV w0 w g q c a1 n1 c1 a2 n2 c2 s v) (hl:s.st.length≤1000) {x:Int} {t:List Int} (hs:s.st=x :: t) :
  Calls Tryz.prog 39 #[.pointer (some ⟨g,0,none⟩)] w fun e w'=>e=.returned (.int .i64 x)∧∃ v',MV w0 w' g q c a1 n1 c1 a2 n2 c2 {s with st:=t } v'∧VTo w g v w'∧∀ k,v'.ownBlock=some k→v.ownBlock=some k:=by
 have hr:s.st.reverse[t.length]?=some x:=by rw [hs,List.reverse_cons,List.getElem?_append_right (by simp)];simp
 have hlen:s.st.reverse.length=t.length+1:=by rw [hs];simp
 obtain ⟨gs,cap,hv,hgb,hgl,hc,hf⟩:=h.st.at_ hr;rw [hlen] at hv;obtain ⟨L,hL⟩:∃ L,L=t.length:=⟨_,rfl⟩
 rw [← hL] at hv hc;subst hv;have hL1:L≤1000:=by rw [hL];rw [hs] at hl;simp at hl;omega
 have hcell:w.cell? ⟨gs,L,none⟩=some (.int .i64 x):=by have:=hc 0 _ rfl;simpa [rZ] using this
 have hcap:L+1≤cap:=by
  rcases h.st.2 with ⟨e,-⟩ | ⟨g',cap',cur,e,-,-,h4,-⟩
  ·cases e
  ·injection e with _ _ e3
   subst e3;rw [hlen] at h4;omega
 have hsh:=(h.st.shrink (by simp) (Nat.le_succ L))
 have ht:s.st.reverse.take L=t.reverse:=by rw [hs,List.reverse_cons,List.take_append_of_le_length (by simp [hL]),List.take_of_length_le (by simp [hL])]
 rw [ht] at hsh;obtain ⟨-,-,r3,r4⟩:=h.restack (Only.refl _ w) hsh;have k129:=h.stk;have f129:=h.free 129;have R3:=Hd r3;have R4:=Hd r4;have ecast:((L+1:Nat):Int) - 1=(L:Int):=by omega
 have hLc:L≤cap:=by omega
 have hnc:¬ cap=0:=by omega
 clear hr hlen hgb hgl hc hf hL hl hsh ht r3 r4 h hs
 go_enter Tryz.func39,Tryz.ntmps39
 go_wp2_with fail
 go_ret;exact ⟨rfl,_,R3.out,R4.out,fun k hk=>hk⟩
theorem gI (h:MV w0 w g q c a1 n1 c1 a2 n2 c2 s v) (i:Int) (hi:n64 i) :
  Calls Tryz.prog 72 #[.pointer (some ⟨g,0,none⟩),.int .i64 i] w fun e w'=>e=.returned (.int .i64 (gU s.pg i))∧Only [] w w':=by
 have hra:w.rangeAt g 0 (iv (q :: s.pg)):=by
  intro j u hj;have hlt:=(List.getElem?_eq_some_iff.1 hj).1;rw [aB,List.length_cons,h.len] at hlt;rw [Nat.zero_add,h.cell j,qs h.len (by omega)];exact hj
 have KG:=fun w=>Get_any h.pg q i hi w;have hsz:(Tryz.prog.info? 33).map (·.size)=some (iv (q :: s.pg)).length:=by
  have:=bN (q :: s.pg) (by rw [List.length_cons,h.len])
  rwa [bH,← aB] at this
 clear h
 go_enter Tryz.func72,Tryz.ntmps72
 go_wp2_with (refine Go.wpList_load_mid rfl 33 (.tmp 10) rfl g 0 (by rfl) (iv (q :: s.pg)) _ hra Tryz.underlying33 rfl hsz ?_)
 refine (KG _).mono ?_;rintro e w2 ⟨rfl,o2⟩;go_wp2_with fail
 go_ret;exact ⟨rfl,o2⟩
theorem MV.jump (h:MV w0 w g q c a1 n1 c1 a2 n2 c2 s v) (m:Nat):MV w0 (w.setCell ⟨g,130,none⟩ (.int .i64 (m:Int))) g q c a1 n1 c1 a2 n2 c2 {s with at_:=m } v∧VTo w g v (w.setCell ⟨g,130,none⟩ (.int .i64 (m:Int))):=
 h.put 1 (.int .i64 (m:Int)) rfl rfl rfl rfl
theorem tC (h:MV w0 w g q c a1 n1 c1 a2 n2 c2 s v) (l:Lp) (m f:Nat) (hm:l.loc=(m:Int)) (hm4:m < 64) (hf:l.fr=(f:Int)) (hx0:0≤s.lo.getD m 0) (hx1:s.lo.getD m 0 < 64) :
  Calls Tryz.prog 77 #[.pointer (some ⟨g,0,none⟩),.agg #[.int .i64 l.loc,.int .i64 l.n,.int .i64 l.fr,.int .i64 l.lst]] w fun e w'=>e=.returned (.tuple #[])∧
   MV w0 w' g q c a1 n1 c1 a2 n2 c2 {s with lo:=s.lo.set m (s.lo.getD m 0+1),at_:=if s.lo.getD m 0+1 < l.n then f else s.at_ } v∧VTo w g v w':=by
 obtain ⟨x,hx⟩:∃ x,x=s.lo.getD m 0:=⟨_,rfl⟩
 rw [← hx] at hx0 hx1⊢;rw [hm,hf];have HX:=Hd hx;have HH:=Hd h;clear hx hm hf h
 go_enter Tryz.func77,Tryz.ntmps77
 go_upto_region 1 with (fail)
 obtain ⟨w1,q9,o1,hB,-⟩:=nb w (.cells #[.int .i64 (m:Int),.int .i64 l.n,.int .i64 (f:Int),.int .i64 l.lst] 54);rw [← q9];clear q9;obtain ⟨gb,hgb⟩:∃ g,g=w.heap.size:=⟨_,rfl⟩
 rw [← hgb] at hB⊢;have hne:gb≠g:=by have:=HH.out.lt;omega
 have oD:Only [] w1 w1.drew:=(Only.refl [] w1).drew;have hM:=(HH.out.quiet o1).quiet oD;have hB2:=oD.heap hB (by simp);have hl:=hM.loc hm4;rw [← HX.out] at hl;refine fw (S:=fun w'=>w'.cell? ⟨gb,0,none⟩=some (.int .i64 (m:Int))∧w'.cell? ⟨g,65+m,none⟩=some (.int .i64 x)) [0,1,2,3,4,5,6,7,8,9,10] (by kernel_rfl) ⟨ab 0 hB2,hl⟩ (fun hH=>?_);have HV:=Hd (VTo.after o1 (VTo.on (VTo.refl w1 g v) oD));have HM:=Hd hM;have HB:=Hd hB2;have HNE:=Hd hne;generalize w1.drew=wd at HM HB HV hH⊢;clear oD hM hB2 hl o1 hB hgb hne HH;have m0:(0:Int)≤(m:Int):=by omega
 have m4:(m:Int) < 64:=by omega
 have hw:IntKind.i64.wrap (x+1)=x+1:=by rw [IntKind.wrap_i64];omega
 refine ap (i:=0) (v:=?_) rfl (by kernel_rfl) (by kernel_rfl) (by kernel_rfl) (by kernel_rfl) (fun _ _ _ h=>h) (Or.inl ⟨by rfl,?_⟩) hH ?_;rotate_left
 ·((intro w hSw;(try dsimp only at hSw);go_simp);try with_reducible rfl)
 simp only [Act.put,List.setIfInBounds_toArray,List.set_cons_zero,List.set_cons_succ];refine ap (i:=1) (v:=?_) rfl (by kernel_rfl) (by kernel_rfl) (by kernel_rfl) (by kernel_rfl) (fun _ _ _ h=>h) (Or.inl ⟨by rfl,?_⟩) hH ?_;rotate_left
 ·((intro w hSw;(try dsimp only at hSw);go_simp);try with_reducible rfl)
 simp only [Act.put,List.setIfInBounds_toArray,List.set_cons_zero,List.set_cons_succ];refine ap (i:=2) (v:=?_) rfl (by kernel_rfl) (by kernel_rfl) (by kernel_rfl) (by kernel_rfl) (fun _ _ _ h=>h) (Or.inl ⟨by rfl,?_⟩) hH ?_;rotate_left
 ·((intro w hSw;(try dsimp only at hSw);go_simp);try with_reducible rfl)
 simp only [Act.put,List.setIfInBounds_toArray,List.set_cons_zero,List.set_cons_succ];refine ap (i:=3) (v:=?_) rfl (by kernel_rfl) (by kernel_rfl) (by kernel_rfl) (by kernel_rfl) (fun _ _ _ h=>h) (Or.inl ⟨by rfl,?_⟩) hH ?_;rotate_left
 ·((intro w hSw;(try dsimp only at hSw);go_simp);try with_reducible rfl)
 simp only [Act.put,List.setIfInBounds_toArray,List.set_cons_zero,List.set_cons_succ];refine ap (i:=4) (v:=?_) rfl (by kernel_rfl) (by kernel_rfl) (by kernel_rfl) (by kernel_rfl) (fun _ _ _ h=>h) (Or.inl ⟨by rfl,?_⟩) hH ?_;rotate_left
 ·((intro w hSw;(try dsimp only at hSw);go_simp);try with_reducible rfl)
 simp only [Act.put,List.setIfInBounds_toArray,List.set_cons_zero,List.set_cons_succ];refine ap (i:=5) (v:=?_) rfl (by kernel_rfl) (by kernel_rfl) (by kernel_rfl) (by kernel_rfl) (fun _ _ _ h=>h) (Or.inl ⟨by rfl,?_⟩) hH ?_;rotate_left
 ·((intro w hSw;(try dsimp only at hSw);go_simp);try with_reducible rfl)
 simp only [Act.put,List.setIfInBounds_toArray,List.set_cons_zero,List.set_cons_succ];refine ap (i:=6) (v:=?_) rfl (by kernel_rfl) (by kernel_rfl) (by kernel_rfl) (by kernel_rfl) (fun _ _ _ h=>h) (Or.inl ⟨by rfl,?_⟩) hH ?_;rotate_left
 ·((intro w hSw;(try dsimp only at hSw);go_simp);try with_reducible rfl)
 simp only [Act.put,List.setIfInBounds_toArray,List.set_cons_zero,List.set_cons_succ];refine ap (i:=7) (v:=?_) rfl (by kernel_rfl) (by kernel_rfl) (by kernel_rfl) (by kernel_rfl) (fun _ _ _ h=>h) (Or.inl ⟨by rfl,?_⟩) hH ?_;rotate_left
 ·((intro w hSw;(try dsimp only at hSw);go_simp);try with_reducible rfl)
 simp only [Act.put,List.setIfInBounds_toArray,List.set_cons_zero,List.set_cons_succ];refine ap (i:=8) (v:=?_) rfl (by kernel_rfl) (by kernel_rfl) (by kernel_rfl) (by kernel_rfl) (fun _ _ _ h=>h) (Or.inl ⟨by rfl,?_⟩) hH ?_;rotate_left
 ·((intro w hSw;(try dsimp only at hSw);go_simp);try with_reducible rfl)
 simp only [Act.put,List.setIfInBounds_toArray,List.set_cons_zero,List.set_cons_succ];refine ap (i:=9) (v:=?_) rfl (by kernel_rfl) (by kernel_rfl) (by kernel_rfl) (by kernel_rfl) (fun _ _ _ h=>h) (Or.inl ⟨by rfl,?_⟩) hH ?_;rotate_left
 ·((intro w hSw;(try dsimp only at hSw);go_simp);try with_reducible rfl)
 simp only [Act.put,List.setIfInBounds_toArray,List.set_cons_zero,List.set_cons_succ];refine ap (i:=10) (v:=?_) rfl (by kernel_rfl) (by kernel_rfl) (by kernel_rfl) (by kernel_rfl) (fun _ _ _ h=>h) (Or.inl ⟨by rfl,?_⟩) hH ?_;rotate_left
 ·((intro w hSw;(try dsimp only at hSw);go_simp);try with_reducible rfl)
 simp only [Act.put,List.setIfInBounds_toArray,List.set_cons_zero,List.set_cons_succ];have fz:=HM.out.free (65+m);have cz:wd.cell? ⟨g,65+m,none⟩=some (.int .i64 x):=hH.2;obtain ⟨r1,r2⟩:=HM.out.setLoc hm4 (x+1);have o2:Only [g] wd (wd.setCell ⟨g,65+m,none⟩ (.int .i64 (x+1))):=oc;have hB3:=o2.heap HB.out (by simpa using HNE.out);have HM2:=Hd r1;have HB3:=Hd hB3;have HV2:=Hd (show VTo w g v (wd.setCell ⟨g,65+m,none⟩ (.int .i64 (x+1))) from Only.trans HV.out r2 (fun k hk=>.inl hk));clear r1 r2 o2 hB3;refine gW (i:=11) (by kernel_rfl) (by kernel_rfl) rfl (fun K hK=>?_);go_simp;refine hK.out _ _ ?_;clear hK K hH fz cz hw;generalize wd.setCell ⟨g,65+m,none⟩ (.int .i64 (x+1))=w3 at HM2 HV2 HB3⊢;refine fx (by kernel_rfl) ?_ _;have hl:=HM2.out.loc hm4
 rw [show ({s with lo:=s.lo.set m (x+1) }:Mc).lo.getD m 0=x+1 by
  show (s.lo.set m (x+1)).getD m 0=x+1;have:=HM.out.lo
  rw [dr,if_pos ⟨rfl,by omega⟩]] at hl
 have y0:w3.cell? ⟨gb,0,none⟩=some (.int .i64 (m:Int)):=ab 0 HB3.out;have y1:w3.cell? ⟨gb,1,none⟩=some (.int .i64 l.n):=ab 1 HB3.out;have hxn:x+1≤64:=by omega
 by_cases hc:x+1 < l.n
 ·have T1:=trivial;go_wp2_with fail
  go_quiet (fail)
  have oq:Only [] w3 (w3.drewN nq):=bU (Only.refl _ _);have hM3:=HM2.out.quiet oq;have HV3:=Hd (HV2.out.on oq);have HB4:=Hd (oq.heap HB3.out (by simp));generalize w3.drewN nq=w4 at hM3 HV3 HB4⊢;obtain ⟨r1,r2⟩:=hM3.jump f;have c130:=hM3.plc;have f130:=hM3.free 130;have y2:w4.cell? ⟨gb,2,none⟩=some (.int .i64 (f:Int)):=ab 2 HB4.out;have R1:=Hd r1;have R2:=Hd r2;clear oq hM3 hl y0 y1 r1 r2;go_wp2_with fail
  first | go_end0 | ((try simp only [Exit.inBlock,Exit.then]);refine bodyPost_ret (results_none rfl _ _ _) rfl ?_)
  exact ⟨rfl,R1.out,Only.trans HV3.out R2.out (fun k hk=>.inl hk)⟩
 ·have T1:=trivial;go_wp2_with fail
  go_quiet (fail)
  have oq:Only [] w3 (w3.drewN nq):=bU (Only.refl _ _);have HM4:=Hd (HM2.out.quiet oq);have HV3:=Hd (HV2.out.on oq);clear oq hl y0 y1;go_wp2_with fail
  first | go_end0 | ((try simp only [Exit.inBlock,Exit.then]);refine bodyPost_ret (results_none rfl _ _ _) rfl ?_)
  exact ⟨rfl,HM4.out,HV3.out⟩
end
theorem bf (b:Bool) (w:World):Calls Tryz.prog 76 #[.bool b] w fun e w'=>e=.returned (.int .i64 (bI b))∧w=w':=by
 cases b<;>
 ·go_enter Tryz.func76,Tryz.ntmps76
  go_wp2
  go_ret;exact ⟨rfl,rfl⟩
def kw (k:Int):Sec:=ops13.getD (k - 1).toNat []
theorem nV (k a b:Int) (w:World) (hn:n64 b) (h1:1≤k) (h2:k≤13) :
  Calls Tryz.prog 75 #[.int .i64 k,.int .i64 a,.int .i64 b] w fun e w'=>e=.returned (.int .i64 (opV (kw k) a b))∧w=w':=by
 have:k=1∨k=2∨k=3∨k=4∨k=5∨k=6∨k=7∨k=8∨k=9∨k=10∨k=11∨k=12∨k=13:=by omega
 rcases this with rfl | rfl | rfl | rfl | rfl | rfl | rfl | rfl | rfl | rfl | rfl | rfl | rfl
 ·have hv:opV (kw 1) a b=_:=vK a b
  go_enter Tryz.func75,Tryz.ntmps75
  go_wp2_with fail
  go_ret;exact ⟨by rw [hv]<;>rfl,rfl⟩
 ·have hv:opV (kw 2) a b=_:=vL a b
  go_enter Tryz.func75,Tryz.ntmps75
  go_wp2_with fail
  go_ret;exact ⟨by rw [hv]<;>rfl,rfl⟩
 ·have hv:opV (kw 3) a b=_:=vM a b
  go_enter Tryz.func75,Tryz.ntmps75
  go_wp2_with fail
  go_ret;exact ⟨by rw [hv]<;>rfl,rfl⟩
 ·by_cases hb:b=0
  ·subst hb;have hv:opV (kw 4) a 0=_:=rq a
   go_enter Tryz.func75,Tryz.ntmps75
   (go_wp2_with fail);go_ret;exact ⟨by rw [hv]<;>rfl,rfl⟩
  ·have hv:opV (kw 4) a b=_:=vN a hb;have hb':(b == 0)=false:=by simpa using hb
   go_enter Tryz.func75,Tryz.ntmps75
   (go_wp2_with fail);go_ret;exact ⟨by rw [hv]<;>rfl,rfl⟩
 ·by_cases hb:b=0
  ·subst hb;have hv:opV (kw 5) a 0=_:=rr a
   go_enter Tryz.func75,Tryz.ntmps75
   (go_wp2_with fail);go_ret;exact ⟨by rw [hv]<;>rfl,rfl⟩
  ·have hv:opV (kw 5) a b=_:=vO a hb;rw [nr a hn hb] at hv;have hb':(b == 0)=false:=by simpa using hb
   go_enter Tryz.func75,Tryz.ntmps75
   (go_wp2_with fail);go_ret;exact ⟨by rw [hv]<;>rfl,rfl⟩
 ·have hv:opV (kw 6) a b=_:=opV_lt a b;generalize opV _ _ _=T at hv⊢
  go_enter Tryz.func75,Tryz.ntmps75
  go_wp2_with fail
  refine (bf _ _).mono ?_;rintro e w1 ⟨rfl,rfl⟩;rw [← hv];clear hv;go_wp2_with fail
  go_ret;exact ⟨rfl,rfl⟩
 ·have hv:opV (kw 7) a b=_:=opV_le a b;generalize opV _ _ _=T at hv⊢
  go_enter Tryz.func75,Tryz.ntmps75
  go_wp2_with fail
  refine (bf _ _).mono ?_;rintro e w1 ⟨rfl,rfl⟩;rw [← hv];clear hv;go_wp2_with fail
  go_ret;exact ⟨rfl,rfl⟩
 ·have hv:opV (kw 8) a b=_:=opV_gt a b;generalize opV _ _ _=T at hv⊢
  go_enter Tryz.func75,Tryz.ntmps75
  go_wp2_with fail
  refine (bf _ _).mono ?_;rintro e w1 ⟨rfl,rfl⟩;rw [← hv];clear hv;go_wp2_with fail
  go_ret;exact ⟨rfl,rfl⟩
 ·have hv:opV (kw 9) a b=_:=opV_ge a b;generalize opV _ _ _=T at hv⊢
  go_enter Tryz.func75,Tryz.ntmps75
  go_wp2_with fail
  refine (bf _ _).mono ?_;rintro e w1 ⟨rfl,rfl⟩;rw [← hv];clear hv;go_wp2_with fail
  go_ret;exact ⟨rfl,rfl⟩
 ·have hv:opV (kw 10) a b=_:=opV_eq a b;generalize opV _ _ _=T at hv⊢
  go_enter Tryz.func75,Tryz.ntmps75
  go_wp2_with fail
  refine (bf _ _).mono ?_;rintro e w1 ⟨rfl,rfl⟩;rw [← hv];clear hv;go_wp2_with fail
  go_ret;exact ⟨rfl,rfl⟩
 ·have hv:opV (kw 11) a b=_:=opV_ne a b;generalize opV _ _ _=T at hv⊢
  go_enter Tryz.func75,Tryz.ntmps75
  go_wp2_with fail
  refine (bf _ _).mono ?_;rintro e w1 ⟨rfl,rfl⟩;rw [← hv];clear hv;go_wp2_with fail
  go_ret;exact ⟨rfl,rfl⟩
 ·by_cases ha:a=0
  ·subst ha;have hv:opV (kw 12) 0 b=bI false:=by rw [show kw 12=[38,38] from rfl,l6,show ((0:Int) != 0)=false from rfl,Bool.false_and]
   generalize opV _ _ _=T at hv⊢
   go_enter Tryz.func75,Tryz.ntmps75
   (go_wp2_with fail);refine (bf _ _).mono ?_;rintro e w1 ⟨rfl,rfl⟩;rw [← hv];clear hv;(go_wp2_with fail);go_ret;exact ⟨rfl,rfl⟩
  ·have ha':(a != 0)=true:=by simpa using ha
   have hv:opV (kw 12) a b=bI (b != 0):=by rw [show kw 12=[38,38] from rfl,l6,ha',Bool.true_and]
   generalize opV _ _ _=T at hv⊢
   go_enter Tryz.func75,Tryz.ntmps75
   (go_wp2_with fail);refine (bf _ _).mono ?_;rintro e w1 ⟨rfl,rfl⟩;rw [← hv];clear hv;(go_wp2_with fail);go_ret;exact ⟨rfl,rfl⟩
 ·by_cases ha:a=0
  ·subst ha;have hv:opV (kw 13) 0 b=bI (b != 0):=by rw [show kw 13=[124,124] from rfl,rt,show ((0:Int) != 0)=false from rfl,Bool.false_or]
   generalize opV _ _ _=T at hv⊢
   go_enter Tryz.func75,Tryz.ntmps75
   (go_wp2_with fail);refine (bf _ _).mono ?_;rintro e w1 ⟨rfl,rfl⟩;rw [← hv];clear hv;(go_wp2_with fail);go_ret;exact ⟨rfl,rfl⟩
  ·have ha':(a != 0)=true:=by simpa using ha
   have hv:opV (kw 13) a b=bI true:=by rw [show kw 13=[124,124] from rfl,rt,ha',Bool.true_or]
   generalize opV _ _ _=T at hv⊢
   go_enter Tryz.func75,Tryz.ntmps75
   (go_wp2_with fail);refine (bf _ _).mono ?_;rintro e w1 ⟨rfl,rfl⟩;rw [← hv];clear hv;(go_wp2_with fail);go_ret;exact ⟨rfl,rfl⟩
end Go.Proofs.YtcebchffcmpfeaaGreat
