import Derived.Test.YtcebchffcmpfeaaGreatX17t
namespace Go.Proofs.YtcebchffcmpfeaaGreat
set_option linter.unusedVariables false
set_option linter.unusedSimpArgs false
set_option maxRecDepth 100000
set_option maxHeartbeats 16000000
open Go.RowKit Go.Maps
def VK (w w':World):Prop:=∀ (b:Nat) (cs:Array Value) (t:TypeId),w.heap[b]?=some (.cells cs t (0,0))→t≠70→t≠3→w'.heap[b]?=some (.cells cs t (0,0))
theorem VK.trans {a b c:World} (h:VK a b) (k:VK b c):VK a c:=fun x cs t hx h1 h2=>k x cs t (h x cs t hx h1 h2) h1 h2
theorem VK.quiet {a b:World} (h:Only [] a b):VK a b:=fun x cs t hx _ _=>h.heap hx (by simp)
theorem rv_blk {α:Type} {R:RowT α} {w:World} {g:Nat} {fr:Nat×Nat} {t:TypeId} (l:List α) (cap:Nat) (h:w.heap[g]?=some (.cells (R.cs l).toArray t fr)):RV R w (.slice (some ⟨g,0,none⟩) l.length cap) l:=
 ⟨_,cap,rfl,.inr ⟨g,0,rfl,fun i x hi j u hj=>by
  have hjk:j < R.k:=by have:=(List.getElem?_eq_some_iff.1 hj).1;rwa [R.hk] at this
  rw [Nat.zero_add,ab _ h,List.getElem?_toArray,R.cs_get l i x j hi hjk]
  exact hj⟩⟩
section
variable {w0 w w':World} {g:Nat} {q:Int} {c:Cd} {a1 a2:Option Addr} {n1 c1 n2 c2:Nat} {s:Mc} {v:Value}
theorem MV.vk (h:MV w0 w g q c a1 n1 c1 a2 n2 c2 s v) (hm:VTo w g v w'):VK w w':=fun b cs t hb h1 h2=>h.off hm hb h1 h2
def dvM (c:Cd) (i:Ins) (s:Mc):Mc:=if i.1=15 then s else doM c i s
structure DoP (c:Cd) (k:Nat) (i:Ins) (s:Mc):Prop where
 ok:dY c k i=true
 loc:c.locals≤64
 st:i.1≠15→(mvs i.1).1≤s.st.length
 len:s.st.length≤1000
 n64:∀ z∈s.st,n64 z
 lp:i.1=14→0≤(lpA c i.2).loc∧(lpA c i.2).loc < 64∧0≤(lpA c i.2).fr∧0≤s.lo.getD (lpA c i.2).loc.toNat 0∧s.lo.getD (lpA c i.2).loc.toNat 0 < 64
theorem ir {k:Int} (h:k=5∨k=6∨k=7) (pg:List Int) (i z:Int):pgV pg [(i,chV k pg i z)]=tY (k - 3) pg i z:=by
 rw [setV_one];unfold tY chV;rcases h with rfl | rfl | rfl<;>simp
theorem wX (pg:List Int) (i j:Int):pgV pg [(i,gU pg j),(j,gU pg i)]=swpC pg i j:=by
 rw [setV_two];rfl
theorem gJ {l:List Int} (h:(1:Int)≤l.length):∃ x t,l=x :: t:=by
 cases l with
 | nil=>simp at h
 | cons x t=>exact ⟨x,t,rfl⟩
theorem nZ {l:List Int} (h:(2:Int)≤l.length):∃ x y t,l=x :: y :: t:=by
 obtain ⟨x,t,rfl⟩:=gJ (l:=l) (by omega);obtain ⟨y,t,rfl⟩:=gJ (l:=t) (by simp at h;omega);exact ⟨x,y,t,rfl⟩
theorem my {pg:List Int} (h:CW pg) (i:Int):n64 (gU pg i):=by
 unfold gU;split
 ·rw [List.getD_eq_getElem?_getD];rename_i hc;rw [List.getElem?_eq_getElem (by rw [h.len];omega)];exact h.in_ _ (List.getElem_mem _)
 ·exact a7
theorem CW.put {pg:List Int} (h:CW pg) (i:Nat) {z:Int} (hz:n64 z):CW (pg.set i z):=⟨by rw [List.length_set];exact h.len,fun y hy=>by
 rcases List.mem_or_eq_of_mem_set hy with h1 | rfl
 ·exact h.in_ y h1
 ·exact hz⟩
theorem mz {pg:List Int} (h:CW pg) (k i:Int) {z:Int} (hz:n64 z):CW (tY k pg i z):=by
 unfold tY;(repeat' split)<;>first | exact h | exact h.put _ hz | exact h.put _ (gj _)
theorem wY {pg:List Int} (h:CW pg) (i j:Int):CW (swpC pg i j):=by
 unfold swpC;split
 ·exact (h.put _ (my h _)).put _ (my h _)
 ·exact h
theorem do_any (h:MV w0 w g q c a1 n1 c1 a2 n2 c2 s v) {k:Nat} {i:Ins} (hp:DoP c k i s) :
  Calls Tryz.prog 40 #[.pointer (some ⟨g,0,none⟩),.agg #[.int .i64 i.1,.int .i64 i.2]] w fun e w'=>e=.returned (.tuple #[])∧∃ v',MV w0 w' g q c a1 n1 c1 a2 n2 c2 (dvM c i s) v'∧VK w w':=by
 obtain ⟨d,n⟩:=i;dsimp only;have hr:=mu hp.ok;dsimp only at hr;have HP:=Hd hp;have hlen:=hp.len;clear hp;have:d=1∨d=2∨d=3∨d=4∨d=5∨d=6∨d=7∨d=8∨d=9∨d=10∨d=11∨d=12∨d=13∨d=14∨d=15∨d=16:=by omega
 clear hr;rcases this with rfl | rfl | rfl | rfl | rfl | rfl | rfl | rfl | rfl | rfl | rfl | rfl | rfl | rfl | rfl | rfl
 ·
  go_enter Tryz.func40,Tryz.ntmps40
  go_upto_region 1 with (fail)
  obtain ⟨w1,q9,o1,hB,-⟩:=nb w (.cells #[.int .i64 1,.int .i64 n] 52);rw [← q9];clear q9;obtain ⟨gb,hgb⟩:∃ g,g=w.heap.size:=⟨_,rfl⟩
  rw [← hgb] at hB⊢;have y0:w1.cell? ⟨gb,0,none⟩=some (.int .i64 1):=ab 0 hB;have y1:w1.cell? ⟨gb,1,none⟩=some (.int .i64 n):=ab 1 hB;have HM1:=Hd (h.quiet o1);have HK1:=Hd (VK.quiet o1);have HB:=Hd hB;clear o1 hB hgb h;go_wp2_with fail
  refine (fc HM1.out hlen n).mono ?_;rintro e w2 ⟨rfl,v2,hm,hv⟩;have HR:=Hd (And.intro hm (HK1.out.trans (HM1.out.vk hv)));clear hm hv;go_wp2_with fail
  first | go_end0 | ((try simp only [Exit.inBlock,Exit.then]);refine bodyPost_ret (results_none rfl _ _ _) rfl ?_)
  exact ⟨rfl,v2,HR.out.1,HR.out.2⟩
 ·obtain ⟨n0,n1'⟩:=mv HP.out.ok (.inl rfl);obtain ⟨m,rfl⟩:∃ m:Nat,n=(m:Int):=⟨n.toNat,by dsimp only at n0;omega⟩
  have m4:m < 64:=by have:=HP.out.loc;dsimp only at n1';omega
  clear n0 n1';generalize hn:(m:Int)=n
  go_enter Tryz.func40,Tryz.ntmps40
  go_upto_region 1 with (fail)
  obtain ⟨w1,q9,o1,hB,-⟩:=nb w (.cells #[.int .i64 2,.int .i64 n] 52);rw [← q9];clear q9;obtain ⟨gb,hgb⟩:∃ g,g=w.heap.size:=⟨_,rfl⟩
  rw [← hgb] at hB⊢;have y0:w1.cell? ⟨gb,0,none⟩=some (.int .i64 2):=ab 0 hB;have y1:w1.cell? ⟨gb,1,none⟩=some (.int .i64 n):=ab 1 hB;have HM1:=Hd (h.quiet o1);have HK1:=Hd (VK.quiet o1);have HB:=Hd hB;clear o1 hB hgb h;subst hn;go_upto_region 5 with (fail)
  have oD:Only [] w1 w1.drew:=(Only.refl [] w1).drew;have hM:=HM1.out.quiet oD;have hB2:=oD.heap HB.out (by simp);have HK0:=Hd (HK1.out.trans (VK.quiet oD));refine wp_region_held_drew (S:=fun w'=>w'.cell? ⟨gb,1,none⟩=some (.int .i64 (m:Int))∧w'.cell? ⟨g,65+m,none⟩=some (.int .i64 (s.lo.getD m 0))) (by kernel_rfl) ⟨ac oD y1 (by simp),hM.loc m4⟩ (fun hH=>?_);clear y0 y1;have HMd:=Hd hM;have HBd:=Hd hB2;generalize w1.drew=wd at HMd HBd HK0 hH⊢;clear oD hM hB2 HB HM1 HK1;have m0:(0:Int)≤(m:Int):=by omega
  have m4':(m:Int) < 64:=by omega
  refine tk 0 hH ?_;refine tk 1 hH ?_;refine tk 2 hH ?_;refine tk 3 hH ?_;refine tk 4 hH ?_;refine tk 5 hH ?_;refine tk 6 hH ?_;refine tk 7 hH ?_;refine rd 8 (fun K hK=>?_);go_simp;refine (fc HMd.out (by omega) _).mono ?_;rintro e w2 ⟨rfl,v2,hm,hv⟩;have hB2:=(HMd.out.vk hv) gb _ _ HBd.out (by decide) (by decide);have HR:=Hd (And.intro hm (HK0.out.trans (HMd.out.vk hv)));refine hK.out _ _ ⟨ab 1 hB2,hm.loc m4⟩ (fun hH=>?_);clear hK K hB2 hm hv;refine wpAnyH_done (by kernel_rfl) ?_ _;clear hH;go_wp2_with fail
  first | go_end0 | ((try simp only [Exit.inBlock,Exit.then]);refine bodyPost_ret (results_none rfl _ _ _) rfl ?_)
  exact ⟨rfl,v2,HR.out.1,HR.out.2⟩
 ·obtain ⟨n0,n1'⟩:=mv HP.out.ok (.inr rfl);have ok:=HP.out.st (by simp);simp only [mvs] at ok;obtain ⟨x,t,hst⟩:=gJ (l:=s.st) (by simpa using ok);clear ok;obtain ⟨m,rfl⟩:∃ m:Nat,n=(m:Int):=⟨n.toNat,by dsimp only at n0;omega⟩
  have m4:m < 64:=by have:=HP.out.loc;dsimp only at n1';omega
  clear n0 n1';generalize hn:(m:Int)=n
  go_enter Tryz.func40,Tryz.ntmps40
  go_upto_region 1 with (fail)
  obtain ⟨w1,q9,o1,hB,-⟩:=nb w (.cells #[.int .i64 3,.int .i64 n] 52);rw [← q9];clear q9;obtain ⟨gb,hgb⟩:∃ g,g=w.heap.size:=⟨_,rfl⟩
  rw [← hgb] at hB⊢;have y0:w1.cell? ⟨gb,0,none⟩=some (.int .i64 3):=ab 0 hB;have y1:w1.cell? ⟨gb,1,none⟩=some (.int .i64 n):=ab 1 hB;have HM1:=Hd (h.quiet o1);have HK1:=Hd (VK.quiet o1);have HB:=Hd hB;clear o1 hB hgb h;subst hn;go_upto_region 7 with (fail)
  have oD:Only [] w1 w1.drew:=(Only.refl [] w1).drew;have hM:=HM1.out.quiet oD;have hB2:=oD.heap HB.out (by simp);have HK0:=Hd (HK1.out.trans (VK.quiet oD));refine wp_region_held_drew (S:=fun w'=>w'.cell? ⟨gb,1,none⟩=some (.int .i64 (m:Int))) (by kernel_rfl) (ac oD y1 (by simp)) (fun hH=>?_);clear y0 y1;have HMd:=Hd hM;have HBd:=Hd hB2;generalize w1.drew=wd at HMd HBd HK0 hH⊢;clear oD hM hB2 HB HM1 HK1;have m0:(0:Int)≤(m:Int):=by omega
  have m4':(m:Int) < 64:=by omega
  refine tk 0 hH ?_;refine tk 1 hH ?_;refine tk 2 hH ?_;refine tk 3 hH ?_;refine tk 5 hH ?_;refine tk 6 hH ?_;refine rd 4 (fun K hK=>?_);go_simp;refine (bC HMd.out (by omega) (x:=x) (t:=t) hst).mono ?_;rintro e w2 ⟨rfl,v2,hm,hv,-⟩;have hB2:=(HMd.out.vk hv) gb _ _ HBd.out (by decide) (by decide);have HM2:=Hd hm;have HK2:=Hd (HK0.out.trans (HMd.out.vk hv));refine hK.out _ _ (ab 1 hB2) (fun hH=>?_);have HB2:=Hd hB2;clear hK K hB2 hm hv;refine tk 7 hH ?_;have cz:=HM2.out.loc m4;have fz:=HM2.out.free (65+m);obtain ⟨r1,r2⟩:=HM2.out.setLoc m4 x;have hB3:=(HM2.out.vk r2) gb _ _ HB2.out (by decide) (by decide);have HR:=Hd (And.intro r1 (HK2.out.trans (HM2.out.vk r2)));have HB3:=Hd hB3;clear r1 r2 hB3;refine rd 8 (fun K hK=>?_);go_simp;refine hK.out _ _ (ab 1 HB3.out) (fun hH=>?_);clear hK K cz fz;refine wpAnyH_done (by kernel_rfl) ?_ _;clear hH;go_wp2_with fail
  first | go_end0 | ((try simp only [Exit.inBlock,Exit.then]);refine bodyPost_ret (results_none rfl _ _ _) rfl ?_)
  first | refine ⟨rfl,v2,?_,HR.out.2⟩ | refine ⟨rfl,⟨v2,?_⟩,HR.out.2⟩
  show MV _ _ _ _ _ _ _ _ _ _ _ {s with st:=s.st.tail,lo:=s.lo.set ((m:Int)).toNat (s.st.headD 0) } _;(try rw [hst]);first | exact HR.out.1 | (have e:=HR.out.1;(try dsimp only at e);rw [HCE.out] at e;exact e)
 ·
  have ok:=HP.out.st (by simp);simp only [mvs] at ok;obtain ⟨x,t,hst⟩:=gJ (l:=s.st) (by simpa using ok);clear ok
  go_enter Tryz.func40,Tryz.ntmps40
  go_upto_region 1 with (fail)
  obtain ⟨w1,q9,o1,hB,-⟩:=nb w (.cells #[.int .i64 4,.int .i64 n] 52);rw [← q9];clear q9;obtain ⟨gb,hgb⟩:∃ g,g=w.heap.size:=⟨_,rfl⟩
  rw [← hgb] at hB⊢;have y0:w1.cell? ⟨gb,0,none⟩=some (.int .i64 4):=ab 0 hB;have y1:w1.cell? ⟨gb,1,none⟩=some (.int .i64 n):=ab 1 hB;have HM1:=Hd (h.quiet o1);have HK1:=Hd (VK.quiet o1);have HB:=Hd hB;clear o1 hB hgb h;go_wp2_with fail
  refine (bC HM1.out (by omega) (x:=x) (t:=t) hst).mono ?_;rintro e w2 ⟨rfl,v2,hm,hv,-⟩;have hB2:=(HM1.out.vk hv) gb _ _ HB.out (by decide) (by decide);have HM2:=Hd hm;have HK2:=Hd (HK1.out.trans (HM1.out.vk hv));have HB2:=Hd hB2;clear hm hv hB2;go_wp2_with fail
  refine (gI HM2.out x (HP.out.n64 x (by rw [hst];simp))).mono ?_;rintro e w3 ⟨rfl,o3⟩;have HM3:=Hd (HM2.out.quiet o3);have HK3:=Hd (HK2.out.trans (VK.quiet o3));clear o3;go_wp2_with fail
  have hl2:t.length≤1000:=by rw [hst] at hlen;simp at hlen;omega
  refine (fc HM3.out (by exact hl2) _).mono ?_;rintro e w4 ⟨rfl,v4,hm,hv⟩;have HR:=Hd (And.intro hm (HK3.out.trans (HM3.out.vk hv)));clear hm hv;go_wp2_with fail
  first | go_end0 | ((try simp only [Exit.inBlock,Exit.then]);refine bodyPost_ret (results_none rfl _ _ _) rfl ?_)
  first | refine ⟨rfl,v4,?_,HR.out.2⟩ | refine ⟨rfl,⟨v4,?_⟩,HR.out.2⟩
  show MV _ _ _ _ _ _ _ _ _ _ _ {s with st:=gU s.pg (s.st.headD 0) :: s.st.tail } _;(try rw [hst]);first | exact HR.out.1 | (have e:=HR.out.1;(try dsimp only at e);rw [HCE.out] at e;exact e)
 ·
  have ok:=HP.out.st (by simp);simp only [mvs] at ok;obtain ⟨x,y,t,hst⟩:=nZ (l:=s.st) (by simpa using ok);clear ok;have hx:=HP.out.n64 x (by rw [hst];simp);have hy:=HP.out.n64 y (by rw [hst];simp);have hl2:(y :: t).length≤1000:=by rw [hst] at hlen;simp at hlen⊢;omega
  have hcw:=mz h.pg (5 - 3) y hx;rw [← ir (k:=5) (by omega) s.pg y x] at hcw;have HCW:=Hd hcw;have HCE:=Hd (ir (k:=5) (by omega) s.pg y x);have HHY:=Hd hy;clear hcw hx hy
  go_enter Tryz.func40,Tryz.ntmps40
  go_upto_region 1 with (fail)
  obtain ⟨w1,q9,o1,hB,-⟩:=nb w (.cells #[.int .i64 5,.int .i64 n] 52);rw [← q9];clear q9;obtain ⟨gb,hgb⟩:∃ g,g=w.heap.size:=⟨_,rfl⟩
  rw [← hgb] at hB⊢;have y0:w1.cell? ⟨gb,0,none⟩=some (.int .i64 5):=ab 0 hB;have y1:w1.cell? ⟨gb,1,none⟩=some (.int .i64 n):=ab 1 hB;have HM1:=Hd (h.quiet o1);have HK1:=Hd (VK.quiet o1);have HB:=Hd hB;clear o1 hB hgb h;go_wp2_with fail
  refine (bC HM1.out (by omega) (x:=x) (t:=(y :: t)) hst).mono ?_;rintro e w2 ⟨rfl,v2,hm,hv,-⟩;have hB2:=(HM1.out.vk hv) gb _ _ HB.out (by decide) (by decide);have HM2:=Hd hm;have HK2:=Hd (HK1.out.trans (HM1.out.vk hv));have HB2:=Hd hB2;clear hm hv hB2;go_upto_region 14 with (fail)
  have y0:w2.cell? ⟨gb,0,none⟩=some (.int .i64 5):=ab 0 HB2.out;have oD:Only [] w2 w2.drew:=(Only.refl [] w2).drew;have hM:=HM2.out.quiet oD;have hB2:=oD.heap HB2.out (by simp);have HK0:=Hd (HK2.out.trans (VK.quiet oD));refine wp_region_held_drew (S:=fun w'=>w'.cell? ⟨gb,0,none⟩=some (.int .i64 5)) (by kernel_rfl) (ac oD y0 (by simp)) (fun hH=>?_);have HMd:=Hd hM;have HBd:=Hd hB2;generalize w2.drew=wd at HMd HBd HK0 hH⊢;clear oD hM hB2 HB HM1 HK1 HM2 HB2 HK2 y0 y1;refine tk 0 hH ?_;refine tk 1 hH ?_;refine tk 2 hH ?_;refine tk 3 hH ?_;refine tk 5 hH ?_;refine rd 4 (fun K hK=>?_);go_simp;refine (bC HMd.out hl2 (x:=y) (t:=t) rfl).mono ?_;rintro e w3 ⟨rfl,v3,hm,hv,-⟩;have hB2:=(HMd.out.vk hv) gb _ _ HBd.out (by decide) (by decide);have HM3:=Hd hm;have HK3:=Hd (HK0.out.trans (HMd.out.vk hv));have HB3:=Hd hB2;refine hK.out _ _ (ab 0 hB2) (fun hH=>?_);clear hK K hB2 hm hv;refine rd 6 (fun K hK=>?_);go_simp;refine (fI HM3.out 5 y x HHY.out HCW.out).mono ?_;rintro e w4 ⟨rfl,hm,hv⟩;have hB2:=(HM3.out.vk hv) gb _ _ HB3.out (by decide) (by decide);have HR:=Hd (And.intro hm (HK3.out.trans (HM3.out.vk hv)));refine hK.out _ _ (ab 0 hB2) (fun hH=>?_);clear hK K hB2 hm hv;refine wpAnyH_done (by kernel_rfl) ?_ _;clear hH;go_wp2_with fail
  first | go_end0 | ((try simp only [Exit.inBlock,Exit.then]);refine bodyPost_ret (results_none rfl _ _ _) rfl ?_)
  first | refine ⟨rfl,v3,?_,HR.out.2⟩ | refine ⟨rfl,⟨v3,?_⟩,HR.out.2⟩
  show MV _ _ _ _ _ _ _ _ _ _ _ {s with st:=s.st.tail.tail,pg:=tY (5 - 3) s.pg (s.st.tail.headD 0) (s.st.headD 0) } _;(try rw [hst]);first | exact HR.out.1 | (have e:=HR.out.1;(try dsimp only at e);rw [HCE.out] at e;exact e)
 ·
  have ok:=HP.out.st (by simp);simp only [mvs] at ok;obtain ⟨x,y,t,hst⟩:=nZ (l:=s.st) (by simpa using ok);clear ok;have hx:=HP.out.n64 x (by rw [hst];simp);have hy:=HP.out.n64 y (by rw [hst];simp);have hl2:(y :: t).length≤1000:=by rw [hst] at hlen;simp at hlen⊢;omega
  have hcw:=mz h.pg (6 - 3) y hx;rw [← ir (k:=6) (by omega) s.pg y x] at hcw;have HCW:=Hd hcw;have HCE:=Hd (ir (k:=6) (by omega) s.pg y x);have HHY:=Hd hy;clear hcw hx hy
  go_enter Tryz.func40,Tryz.ntmps40
  go_upto_region 1 with (fail)
  obtain ⟨w1,q9,o1,hB,-⟩:=nb w (.cells #[.int .i64 6,.int .i64 n] 52);rw [← q9];clear q9;obtain ⟨gb,hgb⟩:∃ g,g=w.heap.size:=⟨_,rfl⟩
  rw [← hgb] at hB⊢;have y0:w1.cell? ⟨gb,0,none⟩=some (.int .i64 6):=ab 0 hB;have y1:w1.cell? ⟨gb,1,none⟩=some (.int .i64 n):=ab 1 hB;have HM1:=Hd (h.quiet o1);have HK1:=Hd (VK.quiet o1);have HB:=Hd hB;clear o1 hB hgb h;go_wp2_with fail
  refine (bC HM1.out (by omega) (x:=x) (t:=(y :: t)) hst).mono ?_;rintro e w2 ⟨rfl,v2,hm,hv,-⟩;have hB2:=(HM1.out.vk hv) gb _ _ HB.out (by decide) (by decide);have HM2:=Hd hm;have HK2:=Hd (HK1.out.trans (HM1.out.vk hv));have HB2:=Hd hB2;clear hm hv hB2;go_upto_region 14 with (fail)
  have y0:w2.cell? ⟨gb,0,none⟩=some (.int .i64 6):=ab 0 HB2.out;have oD:Only [] w2 w2.drew:=(Only.refl [] w2).drew;have hM:=HM2.out.quiet oD;have hB2:=oD.heap HB2.out (by simp);have HK0:=Hd (HK2.out.trans (VK.quiet oD));refine wp_region_held_drew (S:=fun w'=>w'.cell? ⟨gb,0,none⟩=some (.int .i64 6)) (by kernel_rfl) (ac oD y0 (by simp)) (fun hH=>?_);have HMd:=Hd hM;have HBd:=Hd hB2;generalize w2.drew=wd at HMd HBd HK0 hH⊢;clear oD hM hB2 HB HM1 HK1 HM2 HB2 HK2 y0 y1;refine tk 0 hH ?_;refine tk 1 hH ?_;refine tk 2 hH ?_;refine tk 3 hH ?_;refine tk 5 hH ?_;refine rd 4 (fun K hK=>?_);go_simp;refine (bC HMd.out hl2 (x:=y) (t:=t) rfl).mono ?_;rintro e w3 ⟨rfl,v3,hm,hv,-⟩;have hB2:=(HMd.out.vk hv) gb _ _ HBd.out (by decide) (by decide);have HM3:=Hd hm;have HK3:=Hd (HK0.out.trans (HMd.out.vk hv));have HB3:=Hd hB2;refine hK.out _ _ (ab 0 hB2) (fun hH=>?_);clear hK K hB2 hm hv;refine rd 6 (fun K hK=>?_);go_simp;refine (fI HM3.out 6 y x HHY.out HCW.out).mono ?_;rintro e w4 ⟨rfl,hm,hv⟩;have hB2:=(HM3.out.vk hv) gb _ _ HB3.out (by decide) (by decide);have HR:=Hd (And.intro hm (HK3.out.trans (HM3.out.vk hv)));refine hK.out _ _ (ab 0 hB2) (fun hH=>?_);clear hK K hB2 hm hv;refine wpAnyH_done (by kernel_rfl) ?_ _;clear hH;go_wp2_with fail
  first | go_end0 | ((try simp only [Exit.inBlock,Exit.then]);refine bodyPost_ret (results_none rfl _ _ _) rfl ?_)
  first | refine ⟨rfl,v3,?_,HR.out.2⟩ | refine ⟨rfl,⟨v3,?_⟩,HR.out.2⟩
  show MV _ _ _ _ _ _ _ _ _ _ _ {s with st:=s.st.tail.tail,pg:=tY (6 - 3) s.pg (s.st.tail.headD 0) (s.st.headD 0) } _;(try rw [hst]);first | exact HR.out.1 | (have e:=HR.out.1;(try dsimp only at e);rw [HCE.out] at e;exact e)
 ·
  have ok:=HP.out.st (by simp);simp only [mvs] at ok;obtain ⟨x,y,t,hst⟩:=nZ (l:=s.st) (by simpa using ok);clear ok;have hx:=HP.out.n64 x (by rw [hst];simp);have hy:=HP.out.n64 y (by rw [hst];simp);have hl2:(y :: t).length≤1000:=by rw [hst] at hlen;simp at hlen⊢;omega
  have hcw:=mz h.pg (7 - 3) y hx;rw [← ir (k:=7) (by omega) s.pg y x] at hcw;have HCW:=Hd hcw;have HCE:=Hd (ir (k:=7) (by omega) s.pg y x);have HHY:=Hd hy;clear hcw hx hy
  go_enter Tryz.func40,Tryz.ntmps40
  go_upto_region 1 with (fail)
  obtain ⟨w1,q9,o1,hB,-⟩:=nb w (.cells #[.int .i64 7,.int .i64 n] 52);rw [← q9];clear q9;obtain ⟨gb,hgb⟩:∃ g,g=w.heap.size:=⟨_,rfl⟩
  rw [← hgb] at hB⊢;have y0:w1.cell? ⟨gb,0,none⟩=some (.int .i64 7):=ab 0 hB;have y1:w1.cell? ⟨gb,1,none⟩=some (.int .i64 n):=ab 1 hB;have HM1:=Hd (h.quiet o1);have HK1:=Hd (VK.quiet o1);have HB:=Hd hB;clear o1 hB hgb h;go_wp2_with fail
  refine (bC HM1.out (by omega) (x:=x) (t:=(y :: t)) hst).mono ?_;rintro e w2 ⟨rfl,v2,hm,hv,-⟩;have hB2:=(HM1.out.vk hv) gb _ _ HB.out (by decide) (by decide);have HM2:=Hd hm;have HK2:=Hd (HK1.out.trans (HM1.out.vk hv));have HB2:=Hd hB2;clear hm hv hB2;go_upto_region 14 with (fail)
  have y0:w2.cell? ⟨gb,0,none⟩=some (.int .i64 7):=ab 0 HB2.out;have oD:Only [] w2 w2.drew:=(Only.refl [] w2).drew;have hM:=HM2.out.quiet oD;have hB2:=oD.heap HB2.out (by simp);have HK0:=Hd (HK2.out.trans (VK.quiet oD));refine wp_region_held_drew (S:=fun w'=>w'.cell? ⟨gb,0,none⟩=some (.int .i64 7)) (by kernel_rfl) (ac oD y0 (by simp)) (fun hH=>?_);have HMd:=Hd hM;have HBd:=Hd hB2;generalize w2.drew=wd at HMd HBd HK0 hH⊢;clear oD hM hB2 HB HM1 HK1 HM2 HB2 HK2 y0 y1;refine tk 0 hH ?_;refine tk 1 hH ?_;refine tk 2 hH ?_;refine tk 3 hH ?_;refine tk 5 hH ?_;refine rd 4 (fun K hK=>?_);go_simp;refine (bC HMd.out hl2 (x:=y) (t:=t) rfl).mono ?_;rintro e w3 ⟨rfl,v3,hm,hv,-⟩;have hB2:=(HMd.out.vk hv) gb _ _ HBd.out (by decide) (by decide);have HM3:=Hd hm;have HK3:=Hd (HK0.out.trans (HMd.out.vk hv));have HB3:=Hd hB2;refine hK.out _ _ (ab 0 hB2) (fun hH=>?_);clear hK K hB2 hm hv;refine rd 6 (fun K hK=>?_);go_simp;refine (fI HM3.out 7 y x HHY.out HCW.out).mono ?_;rintro e w4 ⟨rfl,hm,hv⟩;have hB2:=(HM3.out.vk hv) gb _ _ HB3.out (by decide) (by decide);have HR:=Hd (And.intro hm (HK3.out.trans (HM3.out.vk hv)));refine hK.out _ _ (ab 0 hB2) (fun hH=>?_);clear hK K hB2 hm hv;refine wpAnyH_done (by kernel_rfl) ?_ _;clear hH;go_wp2_with fail
  first | go_end0 | ((try simp only [Exit.inBlock,Exit.then]);refine bodyPost_ret (results_none rfl _ _ _) rfl ?_)
  first | refine ⟨rfl,v3,?_,HR.out.2⟩ | refine ⟨rfl,⟨v3,?_⟩,HR.out.2⟩
  show MV _ _ _ _ _ _ _ _ _ _ _ {s with st:=s.st.tail.tail,pg:=tY (7 - 3) s.pg (s.st.tail.headD 0) (s.st.headD 0) } _;(try rw [hst]);first | exact HR.out.1 | (have e:=HR.out.1;(try dsimp only at e);rw [HCE.out] at e;exact e)
 ·
  have ok:=HP.out.st (by simp);simp only [mvs] at ok;obtain ⟨x,y,t,hst⟩:=nZ (l:=s.st) (by simpa using ok);clear ok;have hx:=HP.out.n64 x (by rw [hst];simp);have hy:=HP.out.n64 y (by rw [hst];simp);have hl2:(y :: t).length≤1000:=by rw [hst] at hlen;simp at hlen⊢;omega
  have hcw:=wY h.pg y x;rw [← wX s.pg y x] at hcw;have HCW:=Hd hcw;have HCE:=Hd (wX s.pg y x);have HXY:=Hd (And.intro hx hy);clear hcw hx hy
  go_enter Tryz.func40,Tryz.ntmps40
  go_upto_region 1 with (fail)
  obtain ⟨w1,q9,o1,hB,-⟩:=nb w (.cells #[.int .i64 8,.int .i64 n] 52);rw [← q9];clear q9;obtain ⟨gb,hgb⟩:∃ g,g=w.heap.size:=⟨_,rfl⟩
  rw [← hgb] at hB⊢;have y0:w1.cell? ⟨gb,0,none⟩=some (.int .i64 8):=ab 0 hB;have y1:w1.cell? ⟨gb,1,none⟩=some (.int .i64 n):=ab 1 hB;have HM1:=Hd (h.quiet o1);have HK1:=Hd (VK.quiet o1);have HB:=Hd hB;clear o1 hB hgb h;go_wp2_with fail
  refine (bC HM1.out (by omega) (x:=x) (t:=(y :: t)) hst).mono ?_;rintro e w2 ⟨rfl,v2,hm,hv,-⟩;have hB2:=(HM1.out.vk hv) gb _ _ HB.out (by decide) (by decide);have HM2:=Hd hm;have HK2:=Hd (HK1.out.trans (HM1.out.vk hv));have HB2:=Hd hB2;clear hm hv hB2;go_wp2_with fail
  refine (bC HM2.out (by exact hl2) (x:=y) (t:=t) rfl).mono ?_;rintro e w3 ⟨rfl,v3,hm,hv,-⟩;have hB2:=(HM2.out.vk hv) gb _ _ HB2.out (by decide) (by decide);have HM3:=Hd hm;have HK3:=Hd (HK2.out.trans (HM2.out.vk hv));have HB3:=Hd hB2;clear hm hv hB2;have K1:=gI HM3.out x HXY.out.1;go_wp2_with fail
  refine K1.mono ?_;rintro e w4 ⟨rfl,o4⟩;have HM4:=Hd (HM3.out.quiet o4);have HK4:=Hd (HK3.out.trans (VK.quiet o4));have K2:=gI HM4.out y HXY.out.2;clear K1 o4;go_wp2_with fail
  refine K2.mono ?_;rintro e w5 ⟨rfl,o5⟩;have HM5:=Hd (HM4.out.quiet o5);have HK5:=Hd (HK4.out.trans (VK.quiet o5));clear K2 o5;go_wp2_with fail
  obtain ⟨w6,q9,o6,hB,-⟩:=nb w5 (.cells #[.int .i64 y,.int .i64 (gU s.pg x),.int .i64 x,.int .i64 (gU s.pg y)] 135);rw [← q9];clear q9
  refine (ja (HM5.out.quiet o6) [(y,gU s.pg x),(x,gU s.pg y)] (rv_blk (R:=rG) [(y,gU s.pg x),(x,gU s.pg y)] 2 hB) (by simp) (by
   intro p hp;simp only [List.mem_cons,List.not_mem_nil,or_false] at hp;rcases hp with rfl | rfl
   ·exact HXY.out.2
   ·exact HXY.out.1) HCW.out).mono ?_
  rintro e w7 ⟨rfl,hm,hv⟩;have HR:=Hd (And.intro hm (HK5.out.trans ((VK.quiet o6).trans ((HM5.out.quiet o6).vk hv))));clear hm hv o6 hB;go_wp2_with fail
  first | go_end0 | ((try simp only [Exit.inBlock,Exit.then]);refine bodyPost_ret (results_none rfl _ _ _) rfl ?_)
  first | refine ⟨rfl,v3,?_,HR.out.2⟩ | refine ⟨rfl,⟨v3,?_⟩,HR.out.2⟩
  show MV _ _ _ _ _ _ _ _ _ _ _ {s with st:=s.st.tail.tail,pg:=swpC s.pg (s.st.tail.headD 0) (s.st.headD 0) } _;(try rw [hst]);first | exact HR.out.1 | (have e:=HR.out.1;(try dsimp only at e);rw [HCE.out] at e;exact e)
 ·
  have ok:=HP.out.st (by simp);simp only [mvs] at ok;obtain ⟨x,y,t,hst⟩:=nZ (l:=s.st) (by simpa using ok);clear ok;have hx:=HP.out.n64 x (by rw [hst];simp);have hl2:(y :: t).length≤1000:=by rw [hst] at hlen;simp at hlen⊢;omega
  obtain ⟨n1',n2'⟩:1≤n∧n≤13:=by
   have:=HP.out.ok;unfold dY at this;simpa using this
  have HKO:=Hd (fun w=>nV n y x w hx n1' n2');clear hx n1' n2'
  go_enter Tryz.func40,Tryz.ntmps40
  go_upto_region 1 with (fail)
  obtain ⟨w1,q9,o1,hB,-⟩:=nb w (.cells #[.int .i64 9,.int .i64 n] 52);rw [← q9];clear q9;obtain ⟨gb,hgb⟩:∃ g,g=w.heap.size:=⟨_,rfl⟩
  rw [← hgb] at hB⊢;have y0:w1.cell? ⟨gb,0,none⟩=some (.int .i64 9):=ab 0 hB;have y1:w1.cell? ⟨gb,1,none⟩=some (.int .i64 n):=ab 1 hB;have HM1:=Hd (h.quiet o1);have HK1:=Hd (VK.quiet o1);have HB:=Hd hB;clear o1 hB hgb h;go_wp2_with fail
  refine (bC HM1.out (by omega) (x:=x) (t:=(y :: t)) hst).mono ?_;rintro e w2 ⟨rfl,v2,hm,hv,-⟩;have hB2:=(HM1.out.vk hv) gb _ _ HB.out (by decide) (by decide);have HM2:=Hd hm;have HK2:=Hd (HK1.out.trans (HM1.out.vk hv));have HB2:=Hd hB2;clear hm hv hB2;go_upto_region 21 with (fail)
  have y1:w2.cell? ⟨gb,1,none⟩=some (.int .i64 n):=ab 1 HB2.out;have oD:Only [] w2 w2.drew:=(Only.refl [] w2).drew;have hM:=HM2.out.quiet oD;have hB2:=oD.heap HB2.out (by simp);have HK0:=Hd (HK2.out.trans (VK.quiet oD));refine wp_region_held_drew (S:=fun w'=>w'.cell? ⟨gb,1,none⟩=some (.int .i64 n)) (by kernel_rfl) (ac oD y1 (by simp)) (fun hH=>?_);have HMd:=Hd hM;have HBd:=Hd hB2;generalize w2.drew=wd at HMd HBd HK0 hH⊢;clear oD hM hB2 HB HM1 HK1 HM2 HB2 HK2 y0 y1;refine tk 0 hH ?_;refine tk 1 hH ?_;refine tk 2 hH ?_;refine tk 3 hH ?_;refine tk 5 hH ?_;refine rd 4 (fun K hK=>?_);go_simp;refine (bC HMd.out hl2 (x:=y) (t:=t) rfl).mono ?_;rintro e w3 ⟨rfl,v3,hm,hv,-⟩;have hB2:=(HMd.out.vk hv) gb _ _ HBd.out (by decide) (by decide);have HM3:=Hd hm;have HK3:=Hd (HK0.out.trans (HMd.out.vk hv));have HB3:=Hd hB2;refine hK.out _ _ (ab 1 hB2) (fun hH=>?_);clear hK K hB2 hm hv;refine rd 6 (fun K hK=>?_);go_simp;refine (HKO.out _).mono ?_;rintro e w4 ⟨rfl,rfl⟩;refine hK.out _ _ hH (fun hH=>?_);clear hK K;refine rd 7 (fun K hK=>?_);go_simp;have hl3:t.length≤1000:=by simp at hl2;omega
  refine (fc HM3.out hl3 _).mono ?_;rintro e w5 ⟨rfl,v5,hm,hv⟩;have hB2:=(HM3.out.vk hv) gb _ _ HB3.out (by decide) (by decide);have HR:=Hd (And.intro hm (HK3.out.trans (HM3.out.vk hv)));refine hK.out _ _ (ab 1 hB2) (fun hH=>?_);clear hK K hB2 hm hv;refine wpAnyH_done (by kernel_rfl) ?_ _;clear hH;go_wp2_with fail
  first | go_end0 | ((try simp only [Exit.inBlock,Exit.then]);refine bodyPost_ret (results_none rfl _ _ _) rfl ?_)
  first | refine ⟨rfl,v5,?_,HR.out.2⟩ | refine ⟨rfl,⟨v5,?_⟩,HR.out.2⟩
  show MV _ _ _ _ _ _ _ _ _ _ _ {s with st:=opV (ops13.getD (n - 1).toNat []) (s.st.tail.headD 0) (s.st.headD 0) :: s.st.tail.tail } _;(try rw [hst]);first | exact HR.out.1 | (have e:=HR.out.1;(try dsimp only at e);rw [HCE.out] at e;exact e)
 ·
  have ok:=HP.out.st (by simp);simp only [mvs] at ok;obtain ⟨x,t,hst⟩:=gJ (l:=s.st) (by simpa using ok);clear ok;have hl2:t.length≤1000:=by rw [hst] at hlen;simp at hlen;omega
  go_enter Tryz.func40,Tryz.ntmps40
  go_upto_region 1 with (fail)
  obtain ⟨w1,q9,o1,hB,-⟩:=nb w (.cells #[.int .i64 10,.int .i64 n] 52);rw [← q9];clear q9;obtain ⟨gb,hgb⟩:∃ g,g=w.heap.size:=⟨_,rfl⟩
  rw [← hgb] at hB⊢;have y0:w1.cell? ⟨gb,0,none⟩=some (.int .i64 10):=ab 0 hB;have y1:w1.cell? ⟨gb,1,none⟩=some (.int .i64 n):=ab 1 hB;have HM1:=Hd (h.quiet o1);have HK1:=Hd (VK.quiet o1);have HB:=Hd hB;clear o1 hB hgb h;go_wp2_with fail
  refine (bC HM1.out (by omega) (x:=x) (t:=t) hst).mono ?_;rintro e w2 ⟨rfl,v2,hm,hv,-⟩;have hB2:=(HM1.out.vk hv) gb _ _ HB.out (by decide) (by decide);have HM2:=Hd hm;have HK2:=Hd (HK1.out.trans (HM1.out.vk hv));have HB2:=Hd hB2;clear hm hv hB2;go_wp2_with fail
  refine (fc HM2.out (by exact hl2) _).mono ?_;rintro e w4 ⟨rfl,v4,hm,hv⟩;have HR:=Hd (And.intro hm (HK2.out.trans (HM2.out.vk hv)));clear hm hv;go_wp2_with fail
  first | go_end0 | ((try simp only [Exit.inBlock,Exit.then]);refine bodyPost_ret (results_none rfl _ _ _) rfl ?_)
  first | refine ⟨rfl,v4,?_,HR.out.2⟩ | refine ⟨rfl,⟨v4,?_⟩,HR.out.2⟩
  show MV _ _ _ _ _ _ _ _ _ _ _ {s with st:=wrap64 (-(s.st.headD 0)) :: s.st.tail } _;(try rw [hst]);first | exact HR.out.1 | (have e:=HR.out.1;(try dsimp only at e);rw [HCE.out] at e;exact e)
 ·
  have ok:=HP.out.st (by simp);simp only [mvs] at ok;obtain ⟨x,t,hst⟩:=gJ (l:=s.st) (by simpa using ok);clear ok;have hl2:t.length≤1000:=by rw [hst] at hlen;simp at hlen;omega
  go_enter Tryz.func40,Tryz.ntmps40
  go_upto_region 1 with (fail)
  obtain ⟨w1,q9,o1,hB,-⟩:=nb w (.cells #[.int .i64 11,.int .i64 n] 52);rw [← q9];clear q9;obtain ⟨gb,hgb⟩:∃ g,g=w.heap.size:=⟨_,rfl⟩
  rw [← hgb] at hB⊢;have y0:w1.cell? ⟨gb,0,none⟩=some (.int .i64 11):=ab 0 hB;have y1:w1.cell? ⟨gb,1,none⟩=some (.int .i64 n):=ab 1 hB;have HM1:=Hd (h.quiet o1);have HK1:=Hd (VK.quiet o1);have HB:=Hd hB;clear o1 hB hgb h;go_wp2_with fail
  refine (bC HM1.out (by omega) (x:=x) (t:=t) hst).mono ?_;rintro e w2 ⟨rfl,v2,hm,hv,-⟩;have hB2:=(HM1.out.vk hv) gb _ _ HB.out (by decide) (by decide);have HM2:=Hd hm;have HK2:=Hd (HK1.out.trans (HM1.out.vk hv));have HB2:=Hd hB2;clear hm hv hB2;go_wp2_with fail
  refine (bf _ _).mono ?_;rintro e w3 ⟨rfl,rfl⟩;rw [show bI (x == 0)=tr (x=0) by unfold bI tr;simp];go_wp2_with fail
  refine (fc HM2.out (by exact hl2) _).mono ?_;rintro e w4 ⟨rfl,v4,hm,hv⟩;have HR:=Hd (And.intro hm (HK2.out.trans (HM2.out.vk hv)));clear hm hv;go_wp2_with fail
  first | go_end0 | ((try simp only [Exit.inBlock,Exit.then]);refine bodyPost_ret (results_none rfl _ _ _) rfl ?_)
  first | refine ⟨rfl,v4,?_,HR.out.2⟩ | refine ⟨rfl,⟨v4,?_⟩,HR.out.2⟩
  show MV _ _ _ _ _ _ _ _ _ _ _ {s with st:=tr (s.st.headD 0=0) :: s.st.tail } _;(try rw [hst]);first | exact HR.out.1 | (have e:=HR.out.1;(try dsimp only at e);rw [HCE.out] at e;exact e)
 ·obtain ⟨n0,-⟩:=eE HP.out.ok (.inl rfl);obtain ⟨m,rfl⟩:∃ m:Nat,n=(m:Int):=⟨n.toNat,by dsimp only at n0;omega⟩
  clear n0;generalize hn:(m:Int)=n
  go_enter Tryz.func40,Tryz.ntmps40
  go_upto_region 1 with (fail)
  obtain ⟨w1,q9,o1,hB,-⟩:=nb w (.cells #[.int .i64 12,.int .i64 n] 52);rw [← q9];clear q9;obtain ⟨gb,hgb⟩:∃ g,g=w.heap.size:=⟨_,rfl⟩
  rw [← hgb] at hB⊢;have y0:w1.cell? ⟨gb,0,none⟩=some (.int .i64 12):=ab 0 hB;have y1:w1.cell? ⟨gb,1,none⟩=some (.int .i64 n):=ab 1 hB;have HM1:=Hd (h.quiet o1);have HK1:=Hd (VK.quiet o1);have HB:=Hd hB;clear o1 hB hgb h;subst hn;obtain ⟨r1,r2⟩:=HM1.out.jump m;have c130:=HM1.out.plc;have f130:=HM1.out.free 130;have HR:=Hd (And.intro r1 (HK1.out.trans (HM1.out.vk r2)));clear r1 r2;go_wp2_with fail
  first | go_end0 | ((try simp only [Exit.inBlock,Exit.then]);refine bodyPost_ret (results_none rfl _ _ _) rfl ?_)
  first | refine ⟨rfl,v,?_,HR.out.2⟩ | refine ⟨rfl,⟨v,?_⟩,HR.out.2⟩
  show MV _ _ _ _ _ _ _ _ _ _ _ {s with at_:=m } _;(try rw [hst]);first | exact HR.out.1 | (have e:=HR.out.1;(try dsimp only at e);rw [HCE.out] at e;exact e)
 ·obtain ⟨n0,-⟩:=eE HP.out.ok (.inr rfl);have ok:=HP.out.st (by simp);simp only [mvs] at ok;obtain ⟨x,t,hst⟩:=gJ (l:=s.st) (by simpa using ok);clear ok;obtain ⟨m,rfl⟩:∃ m:Nat,n=(m:Int):=⟨n.toNat,by dsimp only at n0;omega⟩
  clear n0;generalize hn:(m:Int)=n
  go_enter Tryz.func40,Tryz.ntmps40
  go_upto_region 1 with (fail)
  obtain ⟨w1,q9,o1,hB,-⟩:=nb w (.cells #[.int .i64 13,.int .i64 n] 52);rw [← q9];clear q9;obtain ⟨gb,hgb⟩:∃ g,g=w.heap.size:=⟨_,rfl⟩
  rw [← hgb] at hB⊢;have y0:w1.cell? ⟨gb,0,none⟩=some (.int .i64 13):=ab 0 hB;have y1:w1.cell? ⟨gb,1,none⟩=some (.int .i64 n):=ab 1 hB;have HM1:=Hd (h.quiet o1);have HK1:=Hd (VK.quiet o1);have HB:=Hd hB;clear o1 hB hgb h;subst hn;go_wp2_with fail
  refine (bC HM1.out (by omega) (x:=x) (t:=t) hst).mono ?_;rintro e w2 ⟨rfl,v2,hm,hv,-⟩;have hB2:=(HM1.out.vk hv) gb _ _ HB.out (by decide) (by decide);have HM2:=Hd hm;have HK2:=Hd (HK1.out.trans (HM1.out.vk hv));have HB2:=Hd hB2;clear hm hv hB2;have y1:w2.cell? ⟨gb,1,none⟩=some (.int .i64 (m:Int)):=ab 1 HB2.out
  by_cases hx:x=0
  ·obtain ⟨r1,r2⟩:=HM2.out.jump m;have c130:=HM2.out.plc;have f130:=HM2.out.free 130;have HR:=Hd (And.intro r1 (HK2.out.trans (HM2.out.vk r2)));have HX:=Hd hx;clear r1 r2;(go_wp2_with fail);(first | go_end0 | ((try simp only [Exit.inBlock,Exit.then]);refine bodyPost_ret (results_none rfl _ _ _) rfl ?_));(first | refine ⟨rfl,v2,?_,HR.out.2⟩ | refine ⟨rfl,⟨v2,?_⟩,HR.out.2⟩);show MV _ _ _ _ _ _ _ _ _ _ _ {s with st:=s.st.tail,at_:=if s.st.headD 0=0 then ((m:Int)).toNat else s.at_ } _;rw [hst,show (x :: t).headD 0=0 from HX.out,if_pos rfl];exact HR.out.1
  ·have HR:=Hd (And.intro HM2.out HK2.out);have HX:=Hd hx;(go_wp2_with fail);(first | go_end0 | ((try simp only [Exit.inBlock,Exit.then]);refine bodyPost_ret (results_none rfl _ _ _) rfl ?_));(first | refine ⟨rfl,v2,?_,HR.out.2⟩ | refine ⟨rfl,⟨v2,?_⟩,HR.out.2⟩);show MV _ _ _ _ _ _ _ _ _ _ _ {s with st:=s.st.tail,at_:=if s.st.headD 0=0 then ((m:Int)).toNat else s.at_ } _;rw [hst,if_neg (show ¬ (x :: t).headD 0=0 from HX.out)];exact HR.out.1
 ·obtain ⟨hg,-,n0⟩:=eY HP.out.ok rfl;obtain ⟨p1,p2,p3,p4,p5⟩:=HP.out.lp rfl;have hlt:n.toNat < n2:=by
   have:=(List.getElem?_eq_some_iff.1 hg).1;rw [h.code.e2];exact this
  obtain ⟨m,rfl⟩:∃ m:Nat,n=(m:Int):=⟨n.toNat,by dsimp only at n0;omega⟩
  obtain ⟨l,hl⟩:∃ l,l=lpA c (m:Int):=⟨_,rfl⟩
  dsimp only at hg p1 p2 p3 p4 p5;rw [← hl] at hg p1 p2 p3 p4 p5;rw [Int.toNat_natCast] at hg hlt;obtain ⟨l',gl,o,hl',rfl,z0,z1,z2,z3⟩:=h.code.loop hlt;obtain rfl:l=l':=by rw [hg] at hl';exact Option.some.inj hl'
  obtain ⟨mm,hmm⟩:∃ mm:Nat,l.loc=(mm:Int):=⟨l.loc.toNat,by omega⟩
  obtain ⟨ff,hff⟩:∃ ff:Nat,l.fr=(ff:Int):=⟨l.fr.toNat,by omega⟩
  have HZ:=Hd (And.intro z0 (And.intro z1 (And.intro z2 z3)));have HL:=Hd hl;have HMF:=Hd (And.intro hmm hff);have HPS:=Hd (And.intro p4 p5);have hm64:mm < 64:=by omega
  have b2:=h.code.b2;clear hl hl' hg n0 z0 z1 z2 z3 hmm hff p1 p2 p3 p4 p5;generalize hn:(m:Int)=n
  go_enter Tryz.func40,Tryz.ntmps40
  go_upto_region 1 with (fail)
  obtain ⟨w1,q9,o1,hB,-⟩:=nb w (.cells #[.int .i64 14,.int .i64 n] 52);rw [← q9];clear q9;obtain ⟨gb,hgb⟩:∃ g,g=w.heap.size:=⟨_,rfl⟩
  rw [← hgb] at hB⊢;have y0:w1.cell? ⟨gb,0,none⟩=some (.int .i64 14):=ab 0 hB;have y1:w1.cell? ⟨gb,1,none⟩=some (.int .i64 n):=ab 1 hB;have HM1:=Hd (h.quiet o1);have HK1:=Hd (VK.quiet o1);have HB:=Hd hB;clear o1 hB hgb h;subst hn;go_upto_region 32 with (fail)
  have oD:Only [] w1 w1.drew:=(Only.refl [] w1).drew;have hM:=HM1.out.quiet oD;have hB2:=oD.heap HB.out (by simp);have HK0:=Hd (HK1.out.trans (VK.quiet oD))
  refine wp_region_held_drew (S:=fun w'=>w'.cell? ⟨gb,1,none⟩=some (.int .i64 (m:Int))∧w'.cell? ⟨g,64,none⟩=some (.slice (some ⟨gl,o,none⟩) n2 c2)∧w'.cell? ⟨gl,o+m*4,none⟩=some (.int .i64 l.loc)∧w'.cell? ⟨gl,o+m*4+1,none⟩=some (.int .i64 l.n)∧w'.cell? ⟨gl,o+m*4+2,none⟩=some (.int .i64 l.fr)∧w'.cell? ⟨gl,o+m*4+3,none⟩=some (.int .i64 l.lst)) (by kernel_rfl)
   ⟨ac oD y1 (by simp),hM.lps,ac hM.only HZ.out.1 (by simp),ac hM.only HZ.out.2.1 (by simp),ac hM.only HZ.out.2.2.1 (by simp),ac hM.only HZ.out.2.2.2 (by simp)⟩ (fun hH=>?_)
  have HMd:=Hd hM;have HBd:=Hd hB2;generalize w1.drew=wd at HMd HBd HK0 hH⊢;clear oD hM hB2 HB HM1 HK1 y0 y1;have m0:(0:Int)≤(m:Int):=by omega
  have mn:(m:Int) < (n2:Int):=by omega
  refine tk 0 hH ?_;refine tk 1 hH ?_;refine tk 2 hH ?_;refine tk 3 hH ?_;refine tk 4 hH ?_;refine tk 5 hH ?_;refine tk 6 hH ?_;refine tk 7 hH ?_;refine tk 8 hH ?_;refine tk 9 hH ?_;refine rd 10 (fun K hK=>?_);go_simp;refine (tC HMd.out l mm ff HMF.out.1 hm64 HMF.out.2 (by have:=HPS.out.1;rwa [HMF.out.1,Int.toNat_natCast] at this) (by have:=HPS.out.2;rwa [HMF.out.1,Int.toNat_natCast] at this)).mono ?_;rintro e w2 ⟨rfl,hm,hv⟩;have hB2:=(HMd.out.vk hv) gb _ _ HBd.out (by decide) (by decide);have HR:=Hd (And.intro hm (HK0.out.trans (HMd.out.vk hv)));refine hK.out _ _ ⟨ab 1 hB2,hm.lps,ac hm.only HZ.out.1 (by simp),ac hm.only HZ.out.2.1 (by simp),ac hm.only HZ.out.2.2.1 (by simp),ac hm.only HZ.out.2.2.2 (by simp)⟩ (fun hH=>?_);clear hK K hB2 hm hv;refine wpAnyH_done (by kernel_rfl) ?_ _;clear hH;go_wp2_with fail
  first | go_end0 | ((try simp only [Exit.inBlock,Exit.then]);refine bodyPost_ret (results_none rfl _ _ _) rfl ?_)
  first | refine ⟨rfl,v,?_,HR.out.2⟩ | refine ⟨rfl,⟨v,?_⟩,HR.out.2⟩
  show MV _ _ _ _ _ _ _ _ _ _ _ {s with lo:=s.lo.set (lpA c (m:Int)).loc.toNat (s.lo.getD (lpA c (m:Int)).loc.toNat 0+1),at_:=if s.lo.getD (lpA c (m:Int)).loc.toNat 0+1 < (lpA c (m:Int)).n then (lpA c (m:Int)).fr.toNat else s.at_ } _;rw [← HL.out,HMF.out.1,HMF.out.2,Int.toNat_natCast,Int.toNat_natCast];exact HR.out.1
 ·
  go_enter Tryz.func40,Tryz.ntmps40
  go_upto_region 1 with (fail)
  obtain ⟨w1,q9,o1,hB,-⟩:=nb w (.cells #[.int .i64 15,.int .i64 n] 52);rw [← q9];clear q9;obtain ⟨gb,hgb⟩:∃ g,g=w.heap.size:=⟨_,rfl⟩
  rw [← hgb] at hB⊢;have y0:w1.cell? ⟨gb,0,none⟩=some (.int .i64 15):=ab 0 hB;have y1:w1.cell? ⟨gb,1,none⟩=some (.int .i64 n):=ab 1 hB;have HM1:=Hd (h.quiet o1);have HK1:=Hd (VK.quiet o1);have HB:=Hd hB;clear o1 hB hgb h;have HR:=Hd (And.intro HM1.out HK1.out);go_wp2_with fail
  first | go_end0 | ((try simp only [Exit.inBlock,Exit.then]);refine bodyPost_ret (results_none rfl _ _ _) rfl ?_)
  first | refine ⟨rfl,v,?_,HR.out.2⟩ | refine ⟨rfl,⟨v,?_⟩,HR.out.2⟩
  show MV _ _ _ _ _ _ _ _ _ _ _ s _;(try rw [hst]);first | exact HR.out.1 | (have e:=HR.out.1;(try dsimp only at e);rw [HCE.out] at e;exact e)
 ·
  have ok:=HP.out.st (by simp);simp only [mvs] at ok;obtain ⟨x,t,hst⟩:=gJ (l:=s.st) (by simpa using ok);clear ok
  go_enter Tryz.func40,Tryz.ntmps40
  go_upto_region 1 with (fail)
  obtain ⟨w1,q9,o1,hB,-⟩:=nb w (.cells #[.int .i64 16,.int .i64 n] 52);rw [← q9];clear q9;obtain ⟨gb,hgb⟩:∃ g,g=w.heap.size:=⟨_,rfl⟩
  rw [← hgb] at hB⊢;have y0:w1.cell? ⟨gb,0,none⟩=some (.int .i64 16):=ab 0 hB;have y1:w1.cell? ⟨gb,1,none⟩=some (.int .i64 n):=ab 1 hB;have HM1:=Hd (h.quiet o1);have HK1:=Hd (VK.quiet o1);have HB:=Hd hB;clear o1 hB hgb h;go_wp2_with fail
  refine (bC HM1.out (by omega) (x:=x) (t:=t) hst).mono ?_;rintro e w2 ⟨rfl,v2,hm,hv,-⟩;have hB2:=(HM1.out.vk hv) gb _ _ HB.out (by decide) (by decide);have HM2:=Hd hm;have HK2:=Hd (HK1.out.trans (HM1.out.vk hv));have HB2:=Hd hB2;clear hm hv hB2;obtain ⟨r1,r2⟩:=HM2.out.put (s':={s with st:=t,gv:=x }) 3 (.int .i64 x) rfl rfl rfl rfl;have c132:=HM2.out.giv;have f132:=HM2.out.free 132;have HR:=Hd (And.intro r1 (HK2.out.trans (HM2.out.vk r2)));clear r1 r2;go_wp2_with fail
  first | go_end0 | ((try simp only [Exit.inBlock,Exit.then]);refine bodyPost_ret (results_none rfl _ _ _) rfl ?_)
  first | refine ⟨rfl,v2,?_,HR.out.2⟩ | refine ⟨rfl,⟨v2,?_⟩,HR.out.2⟩
  show MV _ _ _ _ _ _ _ _ _ _ _ {s with st:=s.st.tail,gv:=s.st.headD 0 } _;(try rw [hst]);first | exact HR.out.1 | (have e:=HR.out.1;(try dsimp only at e);rw [HCE.out] at e;exact e)
end
end Go.Proofs.YtcebchffcmpfeaaGreat
