import Derived.Test.YtcebchffcmpfeaaGreatHat
namespace Go.Proofs.YtcebchffcmpfeaaGreat
set_option linter.unusedVariables false
set_option linter.unusedSimpArgs false
set_option maxRecDepth 100000
set_option maxHeartbeats 16000000
open Go.RowKit Go.Maps
def HCP (N:Nat):Prop:=∀ e:E,aC e≤N→∀ (w:World) (cs:List Value) (B:Nat→Prop),EV w B e cs→Calls Tryz.prog 103 #[.agg cs.toArray] w fun en w'=>en=.returned (.bool (t8 e))∧Only [] w w'
def IxPost (w:World) (b:Bool) (en:Ending) (w':World):Prop:=(b=true∧(∃ j:Nat,en=.returned (.int .i64 (j:Int)))∨b=false∧en=.returned (.int .i64 (-1)))∧Only [] w w'
theorem dh:∀ xs:List E,xs.length≤aq xs
 | []=>by simp
 | x :: xs=>by
  have:=dh xs;have h1:1≤aC x:=by cases x;unfold aC;omega
  rw [aE,List.length_cons];omega
theorem di:∀ {xs:List E} {j:Nat} {e:E},xs[j]?=some e→aC e≤aq xs
 | [],j,e,h=>by simp at h
 | x :: xs,0,e,h=>by simp at h;subst h;rw [aE];omega
 | x :: xs,j+1,e,h=>by have:=di (xs:=xs) (j:=j) (e:=e) (by simpa using h);rw [aE];omega
theorem xj (N:Nat) (IH:HCP N) (xs:List E) (hN:aq xs≤N) (hNN:N≤1000000) {w:World} {v:Value} {B:Nat→Prop} (hv:EsV w B v xs) :
  Calls Tryz.prog 131 #[v,.func (.func 103) #[] #[]] w (IxPost w (de xs)):=by
 obtain ⟨a,cap,rfl,hcap,hx⟩:=hv;have HX:=Hd hx;obtain ⟨n,hn⟩:∃ n,n=xs.length:=⟨_,rfl⟩
 rw [← hn] at hcap⊢;have HN:=Hd hn;have hnb:n≤1000000:=by have:=dh xs;omega
 clear hx hn hcap
 go_enter Tryz.func131,Tryz.ntmps131
 go_wp2_with fail
 go_loopw [5,8] (fun _ ix wr=>∃ j:Nat,j≤n∧ix=.int .i64 (j:Int)∧Hid (de (xs.take j)=false)∧Hid (Only [] w wr)) (fun _ ix _=>n - (intOf ix).toNat)
 case atStart=>exact ⟨0,Nat.zero_le _,rfl,Hd (by rw [List.take_zero];unfold de;rfl),Hd (Only.refl _ _)⟩
 case round=>
  obtain ⟨j,hjn,rfl,HT,HO⟩:=hrel
  by_cases hlt:j < n
  ·have hlt':(j:Int) < (n:Int):=by omega
   have j0:(0:Int)≤(j:Int):=by omega
   obtain ⟨e,he⟩:∃ e,xs[j]?=some e:=⟨_,List.getElem?_eq_getElem (by rw [← HN.out];exact hlt)⟩
   obtain ⟨gr,rfl,hgr,hes⟩:∃ gr,a=some ⟨gr,0,none⟩∧B gr∧EsO w B gr 0 xs:=by
    rcases HX.out with hx | ⟨gr,h1,h2,h3⟩
    ·rw [hx] at he;simp at he
    ·exact ⟨gr,h1,h2,EsAt.eso xs 0 0 rfl h3⟩
   obtain ⟨k1,n1,sn1,a1,l1,c1,p1,hev1,hat1⟩:=hes.at5 he;have hat:=hat1.kept HO.out (by simp);have z0:=hat.c0;have z1:=hat.c1;have z2:=hat.c2;have z3:=hat.c3;have z4:=hat.c4;have K1:=IH e (Nat.le_trans (di he) hN) wr _ B (hev1.quiet HO.out);have HJ:=Hd (rB HT.out he);have HE:=Hd (rC (xs:=xs) he);clear he hes hev1 hat1 hat;cases hc:t8 e with
   | true=>
    rw [hc] at K1;have HC:=Hd (HE.out hc);clear hc;(go_wp2_with fail);refine K1.mono ?_;rintro en w1 ⟨rfl,o1⟩;(go_wp2_with fail);go_ret;exact ⟨.inl ⟨HC.out,j,rfl⟩,HO.out.trans o1 (by simp)⟩
   | false=>
    rw [hc] at K1;have HC:=Hd (HJ.out.trans hc);clear hc;(go_wp2_with fail);refine K1.mono ?_;rintro en w1 ⟨rfl,o1⟩;have HO1:=Hd (HO.out.trans o1 (by simp));clear o1 z0 z1 z2 z3 z4 K1;(go_wp2_with fail);refine ⟨⟨j+1,by omega,by simp,HC,HO1⟩,?_⟩;simp [intOf];omega
  ·obtain rfl:j=n:=by omega
   have HTT:=Hd (show de xs=false by have:=HT.out;rwa [HN.out,List.take_length] at this);(go_wp2_with fail);go_ret;exact ⟨.inr ⟨HTT.out,rfl⟩,HO.out⟩
theorem om (N:Nat) (IH:HCP N) (xs:List E) (hN:aq xs≤N) (hNN:N≤1000000) {w:World} {v:Value} {B:Nat→Prop} (hv:EsV w B v xs) :
  Calls Tryz.prog 119 #[v,.func (.func 103) #[] #[]] w fun en w'=>en=.returned (.bool (de xs))∧Only [] w w':=by
 have K1:=xj N IH xs hN hNN hv;obtain ⟨a,cap,rfl,-⟩:=hv;generalize de xs=b at K1⊢
 go_enter Tryz.func119,Tryz.ntmps119
 go_wp2_with fail
 refine K1.mono ?_;rintro en w1 ⟨⟨rfl,j,rfl⟩ | ⟨rfl,rfl⟩,o1⟩
 ·have hj:(0:Int)≤(j:Int):=by omega
  go_wp2_with fail
  go_ret;exact ⟨by simp,o1⟩
 ·go_wp2_with fail
  go_ret;exact ⟨rfl,o1⟩
theorem oo (N:Nat) (hNN:N+1≤1000000) (IH:HCP N):HCP (N+1):=by
 intro e hN w cs B hev;obtain ⟨k,n,nm,xs,p⟩:=e;have hsz:aq xs≤N:=by unfold aC at hN;omega
 unfold EV at hev;obtain ⟨a,cap,rfl,hcap,hx⟩:=hev;have o1:Only [] w (w.alloc (.cells #[.int .i64 k,.int .i64 n,.string (aj nm),.slice a xs.length cap,.int .i64 p] 95)):=(Only.refl _ _).alloc _;have hY:=ag w (.cells #[.int .i64 k,.int .i64 n,.string (aj nm),.slice a xs.length cap,.int .i64 p] 95);obtain ⟨w1,hw1⟩:∃ w1,w1=w.alloc (.cells #[.int .i64 k,.int .i64 n,.string (aj nm),.slice a xs.length cap,.int .i64 p] 95):=⟨_,rfl⟩
 rw [← hw1] at o1 hY;have K1:=om N IH xs hsz (by omega) (show EsV w1 B (.slice a xs.length cap) xs from EsV.quiet ⟨a,cap,rfl,hcap,hx⟩ o1);unfold t8;obtain ⟨sn,hsn⟩:∃ sn,sn=aj nm:=⟨_,rfl⟩
 obtain ⟨L,hL⟩:∃ L,L=xs.length:=⟨_,rfl⟩
 rw [← hsn,← hL] at hw1 hY;rw [← hL] at K1;rw [← hsn,← hL];generalize de xs=b at K1⊢;obtain ⟨R,hR⟩:∃ R,R=(decide (k=3) || b):=⟨_,rfl⟩
 rw [← hR];have HR:=Hd hR;have HO:=Hd o1;have HW:=Hd hw1;have y0:w1.cell? ⟨w.heap.size,0,none⟩=some (.int .i64 k):=ab 0 hY;have y3:w1.cell? ⟨w.heap.size,3,none⟩=some (.slice a L cap):=ab 3 hY;clear o1 hw1 hY hcap hx hsn hL hsz hN hR
 go_enter Tryz.func103,Tryz.ntmps103
 go_upto_region 1 with (fail)
 rw [← HW.out]
 by_cases h3:k=3
 ·subst h3;go_wp2_with fail
  go_ret;exact ⟨by rw [HR.out];simp,HO.out⟩
 ·have e3:(k == 3)=false:=by simpa using h3
  go_wp2_with fail
  refine K1.mono ?_;rintro en w2 ⟨rfl,o2⟩;go_wp2_with fail
  go_ret;exact ⟨by rw [HR.out,decide_eq_false h3,Bool.false_or];rfl,HO.out.trans o2 (by simp)⟩
theorem j9:∀ N,N≤1000000→HCP N
 | 0,_=>fun e he=>by cases e;unfold aC at he;omega
 | N+1,h=>oo N h (j9 N (by omega))
theorem gN:CW blankP:=⟨by rfl,fun z hz=>by simp [blankP] at hz;subst hz;exact a7⟩
theorem xl:NW (bJ []):=fun z v h=>by cases h
theorem look_nil (nm:ByteArray) (w:World):(Instr.lookup 90 (.map none) (.string nm) true).run Tryz.prog w=.ok (.tuple #[.int .i64 0,.bool false]) w:=by kernel_rfl
theorem ln (nm:Sec) (w:World):Calls Tryz.prog 133 #[.string (aj nm),.map none] w fun e w'=>e=.returned (.tuple #[.int .i64 (nmV (bJ []) nm),.bool (rA nm)])∧w=w':=by
 obtain ⟨V,hV⟩:∃ V,V=nmV (bJ []) nm:=⟨_,rfl⟩
 obtain ⟨T,hT⟩:∃ T,T=rA nm:=⟨_,rfl⟩
 rw [← hV,← hT];obtain ⟨sn,hsn⟩:∃ sn,sn=aj nm:=⟨_,rfl⟩
 rw [← hsn];have hd:sn.data.toList=nm:=by rw [hsn];simp [aj]
 unfold nmV at hV;unfold rA at hT;clear hsn
 by_cases h1:nm=[116,114,117,101]
 ·rw [if_pos h1] at hV;rw [decide_eq_true h1,Bool.true_or] at hT;subst hV hT;obtain rfl:=bk.2 (hd.trans h1);clear hd h1
  go_enter Tryz.func133,Tryz.ntmps133
  go_wp2_with fail
  refine (be _ _).mono ?_;rintro e w1 ⟨rfl,rfl⟩;go_wp2_with fail
  go_ret2
  exact ⟨rfl,rfl⟩
 ·rw [if_neg h1] at hV
  by_cases h2:nm=[102,97,108,115,101]
  ·rw [if_pos h2] at hV;rw [decide_eq_true h2,Bool.or_true] at hT;subst hV hT;obtain rfl:=bk.2 (hd.trans h2);clear hd h1 h2
   go_enter Tryz.func133,Tryz.ntmps133
   (go_wp2_with fail);refine (be _ _).mono ?_;rintro e w1 ⟨rfl,rfl⟩;go_wp2_with fail
   go_ret2
   exact ⟨rfl,rfl⟩
  ·rw [if_neg h2] at hV;rw [decide_eq_false h1,decide_eq_false h2] at hT;have n1:(sn.toList == [116,114,117,101])=false:=fy (fun e=>h1 (hd.symm.trans e));have n2:(sn.toList == [102,97,108,115,101])=false:=fy (fun e=>h2 (hd.symm.trans e));obtain rfl:V=0:=hV;obtain rfl:T=false:=hT;have hl:=look_nil sn w;clear hd h1 h2
   go_enter Tryz.func133,Tryz.ntmps133
   go_wp2_with fail
   go_ret2
   exact ⟨rfl,rfl⟩
def iV (n:Int) (c:List Int):Array Value:=(iv (n :: c)++[Value.map none]).toArray
structure R0 (w:World) (g:Nat):Prop where
 row:w.heap[g]?=some (.cells (iV 0 blankP) 180 (0,0))
theorem R0.quiet {w w':World} {g:Nat} (h:R0 w g) (o:Only [] w w'):R0 w' g:=⟨o.heap h.row (by simp)⟩
theorem R0.map {w:World} {g:Nat} (h:R0 w g):w.cell? ⟨g,61,none⟩=some (.map none):=by rw [ab 61 h.row];rfl
def fixA:List E→Prop | []=>True | x :: xs=>mg x=true∧fixA xs
theorem rK:∀ xs:List E,fixL xs=true↔fixA xs
 | []=>by unfold fixL fixA;simp
 | x :: xs=>by unfold fixL fixA;rw [Bool.and_eq_true,rK xs]
theorem fix_mk {k n:Int} {nm:Sec} {xs:List E} {p:Int} (h:mg (.mk k n nm xs p)=true):(k=2→rA nm=true)∧k≠3∧(k≠2→fixA xs):=by
 unfold mg at h
 by_cases h3:k=3
 ·rw [if_pos h3] at h;cases h
 ·rw [if_neg h3] at h
  by_cases h2:k=2
  ·rw [if_pos h2] at h;exact ⟨fun _=>h,h3,fun e=>absurd h2 e⟩
  ·rw [if_neg h2] at h;exact ⟨fun e=>absurd e h2,h3,fun _=>(rK xs).1 h⟩
def XP0 (N:Nat):Prop:=∀ (e:E),aC e≤N→mg e=true→∀ (w:World) (g:Nat) (cs:List Value) (B:Nat→Prop),R0 w g→wE e→gE e→EV w B e cs→
 Calls Tryz.prog 121 #[.pointer (some ⟨g,0,none⟩),.agg cs.toArray] w fun en w'=>en=.returned (.int .i64 (exV blankP (bJ []) e))∧Only [] w w'
theorem p0_step (N:Nat) (IE:XP0 N):XP0 (N+1):=by
 intro e hN hfx w g cs B h hw hg hev;obtain ⟨k,num,nm,ys,p⟩:=e;have HFX:=Hd (fix_mk hfx);clear hfx;unfold wE at hw;obtain ⟨hi,hnm,hwl⟩:=hw;unfold gE at hg;obtain ⟨hnum,hgl⟩:=hg;have hsz:aq ys≤N:=by unfold aC at hN;omega
 unfold EV at hev;obtain ⟨a,cap,rfl,hcap,hx⟩:=hev;obtain ⟨R,hR⟩:∃ R,R=exV blankP (bJ []) (.mk k num nm ys p):=⟨_,rfl⟩
 rw [← hR];rw [exV_mk] at hR;unfold exO at hR;obtain ⟨sn,hsn⟩:∃ sn,sn=aj nm:=⟨_,rfl⟩
 obtain ⟨L,hL⟩:∃ L,L=ys.length:=⟨_,rfl⟩
 rw [← hL] at hcap;have HX:=Hd hx;have HSN:=Hd hsn;have HL:=Hd hL;rw [← hsn,← hL];have o1:Only [] w (w.alloc (.cells #[.int .i64 k,.int .i64 num,.string sn,.slice a L cap,.int .i64 p] 95)):=(Only.refl _ _).alloc _;have HY:=Hd (ag w (.cells #[.int .i64 k,.int .i64 num,.string sn,.slice a L cap,.int .i64 p] 95));obtain ⟨w1,hw1⟩:∃ w1,w1=w.alloc (.cells #[.int .i64 k,.int .i64 num,.string sn,.slice a L cap,.int .i64 p] 95):=⟨_,rfl⟩
 rw [← hw1] at o1 HY;have HO1:=Hd o1;have HW:=Hd hw1;have HH:=Hd (h.quiet o1);have HNM:=Hd hnm;clear h hx hsn hL hN o1 hw1 hnm
 by_cases h2:k=2
 ·subst h2;have hRR:R=nmV (bJ []) nm:=by rw [hR,if_pos rfl]
  have HRR:=Hd hRR;have y2:w1.cell? ⟨w.heap.size,2,none⟩=some (.string sn):=ab 2 HY.out;have y61:=HH.out.map;clear hR hRR hi hwl hgl hsz
  go_enter Tryz.func121,Tryz.ntmps121
  go_upto_region 3 with (fail)
  rw [← HW.out];have oD:Only [] w1 w1.drew:=(Only.refl [] w1).drew;refine wp_region_held_drew (S:=fun w'=>w'.cell? ⟨w.heap.size,2,none⟩=some (.string sn)∧w'.cell? ⟨g,61,none⟩=some (.map none)) (by kernel_rfl) ⟨ac oD y2 (by simp),ac oD y61 (by simp)⟩ (fun hH=>?_);have HO2:=Hd (HO1.out.trans oD (by simp));clear oD y2 y61;generalize w1.drew=wd at HO2 hH⊢;refine tk 0 hH ?_;refine tk 1 hH ?_;refine tk 2 hH ?_;refine tk 3 hH ?_;refine tk 4 hH ?_;refine tk 5 hH ?_;have KN:=ln nm wd;rw [← HSN.out,← HRR.out] at KN;refine rd 6 (fun K hK=>?_);go_simp;refine KN.mono ?_;rintro e w3 ⟨rfl,rfl⟩;refine hK.out _ _ hH (fun hH=>?_);clear hK K KN;refine tk 7 hH ?_;refine tk 8 hH ?_;refine tk 9 hH ?_;refine tk 10 hH ?_;refine tk 11 hH ?_;refine wpAnyH_done (by kernel_rfl) ?_ _;clear hH;go_wp2_with fail
  go_ret;exact ⟨rfl,HO2.out⟩
 ·have h3:k≠3:=HFX.out.2.1
  by_cases h4:k=4
  ·subst h4;have hRR:R=tr ((tX blankP (bJ []) ys).getD 0 0=0):=by rw [hR,if_neg (by decide),if_neg (by decide),if_pos rfl]
   have hlen:ys.length=1:=by rcases hi with hi | hi | hi<;>omega
   clear hR hi;obtain ⟨y,rfl⟩:∃ y,ys=[y]:=by
    rcases ys with _ | ⟨y,_ | ⟨z,zs⟩⟩
    ·simp at hlen
    ·exact ⟨y,rfl⟩
    ·simp at hlen
   obtain ⟨gr,rfl,hgr,hes⟩:∃ gr,a=some ⟨gr,0,none⟩∧B gr∧EsO w B gr 0 [y]:=by
    rcases HX.out with hx | ⟨gr,h1,h2,h3⟩
    ·cases hx
    ·exact ⟨gr,h1,h2,EsAt.eso [y] 0 0 rfl h3⟩
   obtain ⟨k1,n1,sn1,a1,l1,c1,p1,hev1,hat1⟩:=hes.at5 (j:=0) rfl;have hat:=hat1.kept HO1.out (by simp);have hl1:L=1:=by rw [HL.out];rfl
   subst hl1;have z0:w1.cell? ⟨gr,0,none⟩=some (.int .i64 k1):=hat.c0;have z1:w1.cell? ⟨gr,1,none⟩=some (.int .i64 n1):=hat.c1;have z2:w1.cell? ⟨gr,2,none⟩=some (.string sn1):=hat.c2;have z3:w1.cell? ⟨gr,3,none⟩=some (.slice a1 l1 c1):=hat.c3;have z4:w1.cell? ⟨gr,4,none⟩=some (.int .i64 p1):=hat.c4;have y3:w1.cell? ⟨w.heap.size,3,none⟩=some (.slice (some ⟨gr,0,none⟩) 1 cap):=ab 3 HY.out;have sy:aC y≤N:=by
    have:aq [y]=aC y+0:=by rw [aE,a6]
    omega
   have wy:wE y:=by unfold wL at hwl;exact hwl.1
   have gy:gE y:=by unfold gL at hgl;exact hgl.1
   have hev2:EV w1 B y [.int .i64 k1,.int .i64 n1,.string sn1,.slice a1 l1 c1,.int .i64 p1]:=hev1.quiet HO1.out;have HG:=Hd gy;have HWY:=Hd wy;have HEV:=Hd hev2;have KX:=fun (w2:World) (o2:Only [] w1 w2)=>IE y sy (HFX.out.2.2 h2).1 w2 g _ B (HH.out.quiet o2) wy gy (hev2.quiet o2);rw [mf] at hRR;have HRR:=Hd hRR;have HV:=Hd (qi gN xl y gy);generalize exV blankP (bJ []) y=V at KX HRR HV;have HKX:=Hd KX;clear hRR hat hat1 hev1 hev2 hes sy hwl hgl wy gy KX;have hT:R=bI (V == 0):=by rw [HRR.out];unfold tr bI;simp
   have HT:=Hd hT;clear hT
   go_enter Tryz.func121,Tryz.ntmps121
   (go_upto_region 9 with (fail));rw [← HW.out];(go_wp2_with fail);refine (HKX.out w1 (Only.refl _ _)).mono ?_;rintro e w3 ⟨rfl,o3⟩;replace HO1:=Hd (HO1.out.trans o3 (by simp));clear o3 y3 z0 z1 z2 z3 z4;(go_wp2_with fail);refine (be _ _).mono ?_;rintro e w4 ⟨rfl,rfl⟩;rw [← HT.out];(go_wp2_with fail);go_ret;exact ⟨rfl,HO1.out⟩
  ·by_cases h5:k=5
   ·subst h5;have hRR:R=wrap64 (-((tX blankP (bJ []) ys).getD 0 0)):=by rw [hR,if_neg (by decide),if_neg (by decide),if_neg (by decide),if_pos rfl]
    have hlen:ys.length=1:=by rcases hi with hi | hi | hi<;>omega
    clear hR hi;obtain ⟨y,rfl⟩:∃ y,ys=[y]:=by
     rcases ys with _ | ⟨y,_ | ⟨z,zs⟩⟩
     ·simp at hlen
     ·exact ⟨y,rfl⟩
     ·simp at hlen
    obtain ⟨gr,rfl,hgr,hes⟩:∃ gr,a=some ⟨gr,0,none⟩∧B gr∧EsO w B gr 0 [y]:=by
     rcases HX.out with hx | ⟨gr,h1,h2,h3⟩
     ·cases hx
     ·exact ⟨gr,h1,h2,EsAt.eso [y] 0 0 rfl h3⟩
    obtain ⟨k1,n1,sn1,a1,l1,c1,p1,hev1,hat1⟩:=hes.at5 (j:=0) rfl;have hat:=hat1.kept HO1.out (by simp);have hl1:L=1:=by rw [HL.out];rfl
    subst hl1;have z0:w1.cell? ⟨gr,0,none⟩=some (.int .i64 k1):=hat.c0;have z1:w1.cell? ⟨gr,1,none⟩=some (.int .i64 n1):=hat.c1;have z2:w1.cell? ⟨gr,2,none⟩=some (.string sn1):=hat.c2;have z3:w1.cell? ⟨gr,3,none⟩=some (.slice a1 l1 c1):=hat.c3;have z4:w1.cell? ⟨gr,4,none⟩=some (.int .i64 p1):=hat.c4;have y3:w1.cell? ⟨w.heap.size,3,none⟩=some (.slice (some ⟨gr,0,none⟩) 1 cap):=ab 3 HY.out;have sy:aC y≤N:=by
     have:aq [y]=aC y+0:=by rw [aE,a6]
     omega
    have wy:wE y:=by unfold wL at hwl;exact hwl.1
    have gy:gE y:=by unfold gL at hgl;exact hgl.1
    have hev2:EV w1 B y [.int .i64 k1,.int .i64 n1,.string sn1,.slice a1 l1 c1,.int .i64 p1]:=hev1.quiet HO1.out;have HG:=Hd gy;have HWY:=Hd wy;have HEV:=Hd hev2;have KX:=fun (w2:World) (o2:Only [] w1 w2)=>IE y sy (HFX.out.2.2 h2).1 w2 g _ B (HH.out.quiet o2) wy gy (hev2.quiet o2);rw [mf] at hRR;have HRR:=Hd hRR;have HV:=Hd (qi gN xl y gy);generalize exV blankP (bJ []) y=V at KX HRR HV;have HKX:=Hd KX;clear hRR hat hat1 hev1 hev2 hes sy hwl hgl wy gy KX
    go_enter Tryz.func121,Tryz.ntmps121
    (go_upto_region 11 with (fail));rw [← HW.out];(go_wp2_with fail);refine (HKX.out w1 (Only.refl _ _)).mono ?_;rintro e w3 ⟨rfl,o3⟩;replace HO1:=Hd (HO1.out.trans o3 (by simp));clear o3 y3 z0 z1 z2 z3 z4;(go_wp2_with fail);go_ret;rw [HRR.out];exact ⟨rfl,HO1.out⟩
   ·by_cases h6:k=6
    ·subst h6;have hRR:R=opV nm ((tX blankP (bJ []) ys).getD 0 0) ((tX blankP (bJ []) ys).getD 1 0):=by rw [hR,if_neg (by decide),if_neg (by decide),if_neg (by decide),if_neg (by decide),if_pos rfl]
     obtain ⟨hlen,hop⟩:ys.length=2∧(opr nm).2≠0:=by rcases hi with hi | hi | hi<;>omega
     have HOP:=Hd (show sn.data.toList∈oX by rw [show sn.data.toList=nm by rw [HSN.out];simp [aj]];exact jG hop);have HSD:=Hd (show sn.data.toList=nm by rw [HSN.out];simp [aj]);clear hR hi hop;obtain ⟨y,z,rfl⟩:∃ y z,ys=[y,z]:=by
      rcases ys with _ | ⟨y,_ | ⟨z,_ | ⟨u,us⟩⟩⟩
      ·simp at hlen
      ·simp at hlen
      ·exact ⟨y,z,rfl⟩
      ·simp at hlen
     obtain ⟨gr,rfl,hgr,hes⟩:∃ gr,a=some ⟨gr,0,none⟩∧B gr∧EsO w B gr 0 [y,z]:=by
      rcases HX.out with hx | ⟨gr,h1,h2,h3⟩
      ·cases hx
      ·exact ⟨gr,h1,h2,EsAt.eso [y,z] 0 0 rfl h3⟩
     obtain ⟨k1,n1,sn1,a1,l1,c1,p1,hev1,hat1⟩:=hes.at5 (j:=0) rfl;obtain ⟨k2,n2,sn2,a2,l2,c2,p2,hev2,hat2⟩:=hes.at5 (j:=1) rfl;have hl1:L=2:=by rw [HL.out];rfl
     subst hl1;have q1:=hat1.kept HO1.out (by simp);have q2:=hat2.kept HO1.out (by simp);have y2:w1.cell? ⟨w.heap.size,2,none⟩=some (.string sn):=ab 2 HY.out;have y3:w1.cell? ⟨w.heap.size,3,none⟩=some (.slice (some ⟨gr,0,none⟩) 2 cap):=ab 3 HY.out;have hZ:w1.cell? ⟨w.heap.size,2,none⟩=some (.string sn)∧w1.cell? ⟨w.heap.size,3,none⟩=some (.slice (some ⟨gr,0,none⟩) 2 cap)∧w1.cell? ⟨gr,0,none⟩=some (.int .i64 k1)∧w1.cell? ⟨gr,1,none⟩=some (.int .i64 n1)∧w1.cell? ⟨gr,2,none⟩=some (.string sn1)∧w1.cell? ⟨gr,3,none⟩=some (.slice a1 l1 c1)∧w1.cell? ⟨gr,4,none⟩=some (.int .i64 p1)∧w1.cell? ⟨gr,5,none⟩=some (.int .i64 k2)∧w1.cell? ⟨gr,6,none⟩=some (.int .i64 n2)∧w1.cell? ⟨gr,7,none⟩=some (.string sn2)∧w1.cell? ⟨gr,8,none⟩=some (.slice a2 l2 c2)∧w1.cell? ⟨gr,9,none⟩=some (.int .i64 p2):=
      ⟨y2,y3,q1.c0,q1.c1,q1.c2,q1.c3,q1.c4,q2.c0,q2.c1,q2.c2,q2.c3,q2.c4⟩
     have HZ:=Hd hZ;have hsum:aC y+aC z≤N:=by
      have:aq [y,z]=aC y+(aC z+0):=by rw [aE,aE,a6]
      omega
     have wy:wE y∧wE z:=by unfold wL at hwl;unfold wL at hwl;exact ⟨hwl.1,hwl.2.1⟩
     have gy:gE y∧gE z:=by unfold gL at hgl;unfold gL at hgl;exact ⟨hgl.1,hgl.2.1⟩
     have HEV1:=Hd (hev1.quiet HO1.out);have HEV2:=Hd (hev2.quiet HO1.out);have HKX:=Hd (fun (w2:World) (o2:Only [] w1 w2)=>IE y (by omega) (HFX.out.2.2 h2).1 w2 g _ B (HH.out.quiet o2) wy.1 gy.1 (HEV1.out.quiet o2));have HKY:=Hd (fun (w2:World) (o2:Only [] w1 w2)=>IE z (by omega) (HFX.out.2.2 h2).2.1 w2 g _ B (HH.out.quiet o2) wy.2 gy.2 (HEV2.out.quiet o2));rw [mf,exVs_two] at hRR;have HRR:=Hd hRR;have HV:=Hd (qi gN xl z gy.2);generalize exV blankP (bJ []) y=V1 at HKX HRR;generalize exV blankP (bJ []) z=V2 at HKY HRR HV;clear hRR hat1 hat2 hev1 hev2 hes hlen hwl hgl wy gy q1 q2 y2 y3 hZ hsum hsz
     go_enter Tryz.func121,Tryz.ntmps121
     (go_upto_region 13 with (fail));rw [← HW.out];have hZ:=HZ.out;have oD:Only [] w1 w1.drew:=(Only.refl [] w1).drew;refine wp_region_held_drew (S:=fun w1=>w1.cell? ⟨w.heap.size,2,none⟩=some (.string sn)∧w1.cell? ⟨w.heap.size,3,none⟩=some (.slice (some ⟨gr,0,none⟩) 2 cap)∧w1.cell? ⟨gr,0,none⟩=some (.int .i64 k1)∧w1.cell? ⟨gr,1,none⟩=some (.int .i64 n1)∧w1.cell? ⟨gr,2,none⟩=some (.string sn1)∧w1.cell? ⟨gr,3,none⟩=some (.slice a1 l1 c1)∧w1.cell? ⟨gr,4,none⟩=some (.int .i64 p1)∧w1.cell? ⟨gr,5,none⟩=some (.int .i64 k2)∧w1.cell? ⟨gr,6,none⟩=some (.int .i64 n2)∧w1.cell? ⟨gr,7,none⟩=some (.string sn2)∧w1.cell? ⟨gr,8,none⟩=some (.slice a2 l2 c2)∧w1.cell? ⟨gr,9,none⟩=some (.int .i64 p2)) (by kernel_rfl) ⟨ac oD hZ.1 (by simp),ac oD hZ.2.1 (by simp),ac oD hZ.2.2.1 (by simp),ac oD hZ.2.2.2.1 (by simp),ac oD hZ.2.2.2.2.1 (by simp),ac oD hZ.2.2.2.2.2.1 (by simp),ac oD hZ.2.2.2.2.2.2.1 (by simp),ac oD hZ.2.2.2.2.2.2.2.1 (by simp),ac oD hZ.2.2.2.2.2.2.2.2.1 (by simp),ac oD hZ.2.2.2.2.2.2.2.2.2.1 (by simp),ac oD hZ.2.2.2.2.2.2.2.2.2.2.1 (by simp),ac oD hZ.2.2.2.2.2.2.2.2.2.2.2 (by simp)⟩ (fun hH=>?_);have HO2:=Hd oD;clear oD hZ;generalize w1.drew=wd at HO2 hH⊢;refine tk 0 hH ?_;refine tk 1 hH ?_;refine tk 2 hH ?_;refine tk 3 hH ?_;refine tk 4 hH ?_;refine tk 5 hH ?_;refine tk 6 hH ?_;refine tk 8 hH ?_;refine tk 9 hH ?_;refine tk 10 hH ?_;refine tk 11 hH ?_;refine tk 12 hH ?_;refine rd 7 (fun K hK=>?_);go_simp;refine (HKX.out wd HO2.out).mono ?_;rintro e w3 ⟨rfl,o3⟩;replace HO2:=Hd (HO2.out.trans o3 (by simp));refine hK.out _ _ ⟨ac o3 hH.1 (by simp),ac o3 hH.2.1 (by simp),ac o3 hH.2.2.1 (by simp),ac o3 hH.2.2.2.1 (by simp),ac o3 hH.2.2.2.2.1 (by simp),ac o3 hH.2.2.2.2.2.1 (by simp),ac o3 hH.2.2.2.2.2.2.1 (by simp),ac o3 hH.2.2.2.2.2.2.2.1 (by simp),ac o3 hH.2.2.2.2.2.2.2.2.1 (by simp),ac o3 hH.2.2.2.2.2.2.2.2.2.1 (by simp),ac o3 hH.2.2.2.2.2.2.2.2.2.2.1 (by simp),ac o3 hH.2.2.2.2.2.2.2.2.2.2.2 (by simp)⟩ (fun hH=>?_);clear hK K o3;refine rd 13 (fun K hK=>?_);go_simp;refine (HKY.out w3 HO2.out).mono ?_;rintro e w4 ⟨rfl,o3⟩;replace HO2:=Hd (HO2.out.trans o3 (by simp));refine hK.out _ _ ⟨ac o3 hH.1 (by simp),ac o3 hH.2.1 (by simp),ac o3 hH.2.2.1 (by simp),ac o3 hH.2.2.2.1 (by simp),ac o3 hH.2.2.2.2.1 (by simp),ac o3 hH.2.2.2.2.2.1 (by simp),ac o3 hH.2.2.2.2.2.2.1 (by simp),ac o3 hH.2.2.2.2.2.2.2.1 (by simp),ac o3 hH.2.2.2.2.2.2.2.2.1 (by simp),ac o3 hH.2.2.2.2.2.2.2.2.2.1 (by simp),ac o3 hH.2.2.2.2.2.2.2.2.2.2.1 (by simp),ac o3 hH.2.2.2.2.2.2.2.2.2.2.2 (by simp)⟩ (fun hH=>?_);clear hK K o3;have KO:=jF sn V1 V2 w4 HV.out HOP.out;rw [HSD.out,← HRR.out] at KO;refine rd 14 (fun K hK=>?_);go_simp;refine KO.mono ?_;rintro e w5 ⟨rfl,rfl⟩;refine hK.out _ _ hH (fun hH=>?_);clear hK K KO;refine tk 15 hH ?_;refine tk 16 hH ?_;refine tk 17 hH ?_;refine tk 18 hH ?_;refine tk 19 hH ?_;refine wpAnyH_done (by kernel_rfl) ?_ _;clear hH;(go_wp2_with fail);go_ret;exact ⟨rfl,HO1.out.trans HO2.out (by simp)⟩
    ·have hRR:R=num:=by rw [hR,if_neg h2,if_neg h3,if_neg h4,if_neg h5,if_neg h6]
     have HRR:=Hd hRR;have e2:(k == 2)=false:=by simpa using h2
     have e3:(k == 3)=false:=by simpa using h3
     have e4:(k == 4)=false:=by simpa using h4
     have e5:(k == 5)=false:=by simpa using h5
     have e6:(k == 6)=false:=by simpa using h6
     have y1:w1.cell? ⟨w.heap.size,1,none⟩=some (.int .i64 num):=ab 1 HY.out;clear hR hRR hi hwl hgl hsz
     go_enter Tryz.func121,Tryz.ntmps121
     (go_upto_region 15 with (fail));rw [← HW.out];(go_wp2_with fail);go_ret;rw [HRR.out];exact ⟨rfl,HO1.out⟩
theorem p0_all:∀ N,XP0 N
 | 0=>fun e he=>by cases e;unfold aC at he;omega
 | N+1=>p0_step N (p0_all N)
def FormB (w:World) (g:Nat) (left:Int):Prop:=w.heap[g]?=some (.cells #[.map none,.int .i64 left] 178 (0,0))
theorem FormB.kept {w w':World} {g:Nat} {left:Int} (h:FormB w g left) {S:List Nat} (o:Only S w w') (hs:g∉S):FormB w' g left:=o.heap h hs
theorem fits_any {w:World} {g:Nat} {left:Int} (h:FormB w g left) (k n p:Int) (nm:Sec) (a:Option Addr) (L c:Nat) (hi:isE k nm L) :
  Calls Tryz.prog 132 #[.pointer (some ⟨g,0,none⟩),.agg #[.int .i64 k,.int .i64 n,.string (aj nm),.slice a L c,.int .i64 p]] w fun en w'=>en=.returned (.bool (if k=2 then rA nm else true))∧Only [] w w':=by
 have g0:w.cell? ⟨g,0,none⟩=some (.map none):=ab 0 h;have hg:=ak h;rcases hi with ⟨hk,rfl⟩ | ⟨hk,rfl⟩ | ⟨rfl,rfl,ho⟩
 ·rcases hk with rfl | rfl
  ·rw [if_neg (by decide)]
   go_enter Tryz.func132,Tryz.ntmps132
   (go_wp2_with fail);go_ret;exact ⟨rfl,(Only.refl _ _).alloc _⟩
  ·rw [if_pos rfl];obtain ⟨sn,hsn⟩:∃ sn,sn=aj nm:=⟨_,rfl⟩
   have KN:=fun w=>ln nm w;rw [← hsn] at KN⊢;generalize rA nm=T at KN⊢;generalize nmV (bJ []) nm=V at KN;have HKN:=Hd KN;have oA:Only [] w (w.alloc (.cells #[.int .i64 2,.int .i64 n,.string sn,.slice a 0 c,.int .i64 p] 95)):=(Only.refl _ _).alloc _;have hA:=ag w (.cells #[.int .i64 2,.int .i64 n,.string sn,.slice a 0 c,.int .i64 p] 95);obtain ⟨w1,hw1⟩:∃ w1,w1=w.alloc (.cells #[.int .i64 2,.int .i64 n,.string sn,.slice a 0 c,.int .i64 p] 95):=⟨_,rfl⟩
   rw [← hw1] at oA hA;have HW:=Hd hw1;have HO:=Hd oA;have HA:=Hd hA;have g1:=ac oA g0 (by simp);have y2:w1.cell? ⟨w.heap.size,2,none⟩=some (.string sn):=ab 2 hA;clear hw1 oA hA g0 KN hsn
   go_enter Tryz.func132,Tryz.ntmps132
   (go_upto_region 5 with (fail));rw [← HW.out];have oD:Only [] w1 w1.drew:=(Only.refl [] w1).drew;refine wp_region_held_drew (S:=fun w'=>w'.cell? ⟨w.heap.size,2,none⟩=some (.string sn)∧w'.cell? ⟨g,0,none⟩=some (.map none)) (by kernel_rfl) ⟨ac oD y2 (by simp),ac oD g1 (by simp)⟩ (fun hH=>?_);have HO2:=Hd (HO.out.trans oD (by simp));have y3:w1.drew.cell? ⟨w.heap.size,3,none⟩=some (.slice a 0 c):=ac oD (ab 3 HA.out) (by simp);clear oD y2 g1;generalize w1.drew=wd at HO2 y3 hH⊢;refine tk 0 hH ?_;refine tk 1 hH ?_;refine tk 2 hH ?_;refine tk 3 hH ?_;refine tk 4 hH ?_;refine tk 5 hH ?_;refine rd 6 (fun K hK=>?_);go_simp;refine (HKN.out wd).mono ?_;rintro e w3 ⟨rfl,rfl⟩;refine hK.out _ _ hH (fun hH=>?_);clear hK K;refine tk 7 hH ?_;refine tk 8 hH ?_;refine tk 9 hH ?_;refine tk 10 hH ?_;refine tk 11 hH ?_;refine wpAnyH_done (by kernel_rfl) ?_ _;clear hH;cases T with
   | true=>
    (go_wp2_with fail);go_ret;exact ⟨rfl,HO2.out⟩
   | false=>
    (go_wp2_with fail);go_ret;exact ⟨rfl,HO2.out⟩
 ·rcases hk with rfl | rfl | rfl<;>
  ·rw [if_neg (by decide)]
   go_enter Tryz.func132,Tryz.ntmps132
   (go_wp2_with fail);go_ret;exact ⟨rfl,(Only.refl _ _).alloc _⟩
 ·rw [if_neg (by decide)];obtain ⟨sn,hsn⟩:∃ sn,sn=aj nm:=⟨_,rfl⟩
  have hm:sn.data.toList∈oX:=by rw [show sn.data.toList=nm by rw [hsn];simp [aj]];exact jG ho
  have KO:=fun w=>jF sn 0 0 w a7 hm;rw [← hsn];generalize opV sn.data.toList 0 0=V at KO;clear hm hsn ho g0
  go_enter Tryz.func132,Tryz.ntmps132
  go_wp2_with fail
  refine (KO _).mono ?_;rintro e w3 ⟨rfl,rfl⟩;go_wp2_with fail
  go_ret;exact ⟨rfl,(Only.refl _ _).alloc _⟩
def xm (w:World) (g:Nat) (left:Int) (e:E) (en:Ending) (w':World):Prop:=∃ l2:Int,en=.returned (.bool (fmE e))∧FormB w' g l2∧(fmE e=true→l2=left - aC e)∧Only [g] w w'
def XHas (N:Nat):Prop:=∀ e:E,aC e≤N→∀ (w:World) (g:Nat) (left:Int) (cs:List Value) (B:Nat→Prop),FormB w g left→(aC e:Int)≤left→left≤480→wE e→EV w B e cs→¬ B g→
 Calls Tryz.prog 120 #[.pointer (some ⟨g,0,none⟩),.agg cs.toArray] w (xm w g left e)
theorem has_step (N:Nat) (IH:XHas N):XHas (N+1):=by
 intro e hN w g left cs B h hle hl4 hw hev hBg;obtain ⟨k,num,nm,ys,p⟩:=e;unfold wE at hw;obtain ⟨hi,hnm,hwl⟩:=hw;have hsz:aq ys≤N:=by unfold aC at hN;omega
 have hle1:1+(aq ys:Int)≤left:=by unfold aC at hle;omega
 have hHP:∀ (b:Bool) (l2:Int) (w':World),b=((if k=2 then rA nm else true) && fmL ys)→FormB w' g l2→(b=true→l2=left - 1 - aq ys)→Only [g] w w'→xm w g left (.mk k num nm ys p) (.returned (.bool b)) w':=fun b l2 w' e1 e2 e3 e4=>by
  have e0:fmE (.mk k num nm ys p)=b:=by rw [e1];unfold fmE;rfl
  refine ⟨l2,by rw [e0],e2,fun h=>?_,e4⟩;rw [e0] at h;rw [e3 h];unfold aC;omega
 have HHP:=Hd hHP;unfold EV at hev;obtain ⟨a,cap,rfl,hcap,hx⟩:=hev;obtain ⟨sn,hsn⟩:∃ sn,sn=aj nm:=⟨_,rfl⟩
 obtain ⟨L,hL⟩:∃ L,L=ys.length:=⟨_,rfl⟩
 rw [← hL] at hi;have hfit:=fun (w:World) (l:Int) (h:FormB w g l)=>fits_any h k num p nm a L cap hi;generalize (if k=2 then rA nm else true)=T at hfit HHP;rw [← hsn] at hfit;have hgt:=ak h;have hLb:L≤1000000:=by have:=dh ys;omega
 have HFT:=Hd hfit;have HX:=Hd hx;have HL:=Hd hL;rw [← hsn,← hL];have o1:Only [] w (w.alloc (.cells #[.int .i64 k,.int .i64 num,.string sn,.slice a L cap,.int .i64 p] 95)):=(Only.refl _ _).alloc _;have hY:=ag w (.cells #[.int .i64 k,.int .i64 num,.string sn,.slice a L cap,.int .i64 p] 95);obtain ⟨gb,hgb⟩:∃ gb,gb=w.heap.size:=⟨_,rfl⟩
 have hne:g≠gb:=by omega
 rw [← hgb] at hY;obtain ⟨w1,hw1⟩:∃ w1,w1=w.alloc (.cells #[.int .i64 k,.int .i64 num,.string sn,.slice a L cap,.int .i64 p] 95):=⟨_,rfl⟩
 rw [← hw1] at o1 hY;have hF1:=h.kept o1 (by simp);have oS:Only [g] w1 (w1.setCell ⟨g,1,none⟩ (.int .i64 (left - 1))):=oc;have hF2:FormB (w1.setCell ⟨g,1,none⟩ (.int .i64 (left - 1))) g (left - 1):=by
  have:=af (i:=1) (.int .i64 (left - 1)) hF1;simpa [FormB] using this
 have HF2:=Hd hF2;have HY2:=Hd (oS.heap hY (by simpa using fun e=>hne e.symm));have HO2:=Hd ((o1.mono (T:=[g]) (by simp)).trans oS (fun _ h=>.inl h));have HW:=Hd hw1;have HGB:=Hd hgb;have HHPL:=Hd hle1;have g1:w1.cell? ⟨g,1,none⟩=some (.int .i64 left):=ab 1 hF1;have f1:=ae 1 hF1;have hwr:IntKind.i64.wrap (left - 1)=left - 1:=by rw [IntKind.wrap_i64];omega
 have hnl:¬ (left - 1 < 0):=by omega
 clear h hx hsn hL hN hle o1 hw1 hY hF1 oS hF2 hHP hfit hgb hnm
 go_enter Tryz.func120,Tryz.ntmps120
 go_upto_region 1 with (fail)
 rw [← HGB.out,← HW.out];go_upto_region 2 with (fail)
 generalize w1.setCell ⟨g,1,none⟩ (.int .i64 (left - 1))=w2 at HF2 HY2 HO2⊢;have g2:w2.cell? ⟨g,1,none⟩=some (.int .i64 (left - 1)):=ab 1 HF2.out;have y0:w2.cell? ⟨gb,0,none⟩=some (.int .i64 k):=ab 0 HY2.out;have y1:w2.cell? ⟨gb,1,none⟩=some (.int .i64 num):=ab 1 HY2.out;have y2:w2.cell? ⟨gb,2,none⟩=some (.string sn):=ab 2 HY2.out;have y3:w2.cell? ⟨gb,3,none⟩=some (.slice a L cap):=ab 3 HY2.out;have y4:w2.cell? ⟨gb,4,none⟩=some (.int .i64 p):=ab 4 HY2.out;clear g1 f1 hwr;go_wp2_with fail
 refine (HFT.out w2 _ HF2.out).mono ?_;rintro en w3 ⟨rfl,o3⟩;replace HF2:=Hd (HF2.out.kept o3 (by simp));replace HO2:=Hd (HO2.out.trans o3 (by simp));replace HY2:=Hd (o3.heap HY2.out (by simp));clear o3 g2 y0 y1 y2 y4 y3 HFT;have y3:w3.cell? ⟨gb,3,none⟩=some (.slice a L cap):=ab 3 HY2.out;cases T with
 | false=>
  go_wp2_with fail
  go_ret;exact HHP.out _ _ _ rfl HF2.out (fun e=>by cases e) HO2.out
 | true=>
  go_wp2_with fail
  go_loopw [28] (fun ix wr=>∃ j:Nat,j≤L∧ix=.int .i64 (j:Int)∧Hid (fmL (ys.take j)=true)∧Hid (FormB wr g (left - 1 - (aq (ys.take j):Nat)))∧Hid (Only [g] w wr)) (fun ix _=>L - (intOf ix).toNat)
  case atStart=>exact ⟨0,Nat.zero_le _,rfl,Hd (by rw [List.take_zero];unfold fmL;rfl),Hd (by rw [List.take_zero,a6];simpa using HF2.out),HO2⟩
  case round=>
   obtain ⟨j,hjn,rfl,HT,HF,HO⟩:=hrel
   by_cases hlt:j < L
   ·have hlt':(j:Int) < (L:Int):=by omega
    have j0:(0:Int)≤(j:Int):=by omega
    obtain ⟨e,he⟩:∃ e,ys[j]?=some e:=⟨_,List.getElem?_eq_getElem (by rw [← HL.out];exact hlt)⟩
    obtain ⟨gr,rfl,hgr,hes⟩:∃ gr,a=some ⟨gr,0,none⟩∧B gr∧EsO w B gr 0 ys:=by
     rcases HX.out with hx | ⟨gr,h1,h2,h3⟩
     ·rw [hx] at he;simp at he
     ·exact ⟨gr,h1,h2,EsAt.eso ys 0 0 rfl h3⟩
    obtain ⟨k1,n1,sn1,a1,l1,c1,p1,hev1,hat1⟩:=hes.at5 he;have hgg:gr≠g:=fun e=>hBg (e ▸ hgr);have hat:=hat1.kept HO.out (by simpa using hgg);have z0:=hat.c0;have z1:=hat.c1;have z2:=hat.c2;have z3:=hat.c3;have z4:=hat.c4;have hev3:EV wr B e _:=hev1.kept HO.out (by simpa using hBg) (fun _ h=>h);have HEV:=Hd hev3;have HSE:=Hd (di he);have HST:=Hd (ce he);have HSL:=Hd (bj ys (j+1));have HJ:=Hd (fmL_at HT.out he);have HE:=Hd (fmL_of (xs:=ys) he);have HWE:=Hd (jy hwl he);clear he hes hev1 hat1 hat hev3 hlt;(go_upto_region 7 with (fail));obtain ⟨w5,q9,o5,hY5,-⟩:=nb wr (.cells #[.int .i64 k1,.int .i64 n1,.string sn1,.slice a1 l1 c1,.int .i64 p1] 95);rw [← q9];clear q9;have x0:w5.cell? ⟨wr.heap.size,0,none⟩=some (.int .i64 k1):=ab 0 hY5;have x1:w5.cell? ⟨wr.heap.size,1,none⟩=some (.int .i64 n1):=ab 1 hY5;have x2:w5.cell? ⟨wr.heap.size,2,none⟩=some (.string sn1):=ab 2 hY5;have x3:w5.cell? ⟨wr.heap.size,3,none⟩=some (.slice a1 l1 c1):=ab 3 hY5;have x4:w5.cell? ⟨wr.heap.size,4,none⟩=some (.int .i64 p1):=ab 4 hY5;have K1:=IH e (Nat.le_trans HSE.out hsz) w5 g _ _ B (HF.out.kept o5 (by simp)) (by have:=HST.out;have:=HSL.out;have:=HHPL.out;omega) (by have:=HHPL.out;omega) HWE.out (HEV.out.quiet o5) hBg;have HO5:=Hd (HO.out.trans o5 (by simp));clear o5 hY5 z0 z1 z2 z3 z4;(go_wp2_with fail);refine K1.mono ?_;rintro en w6 ⟨l2,rfl,hf6,hl6,o6⟩;have HO6:=Hd (HO5.out.trans o6 (fun _ h=>.inl h));have HF6:=Hd hf6;have HL6:=Hd hl6;clear o6 K1 x0 x1 x2 x3 x4 hf6 hl6;cases hc:fmE e with
    | false=>
     have HC:=Hd (HE.out hc);clear hc;(go_wp2_with fail);go_ret;exact HHP.out _ _ _ (by rw [HC.out];rfl) HF6.out (fun e=>by cases e) HO6.out
    | true=>
     have HC:=Hd (HJ.out.trans hc);have hl2:=HL6.out hc
     have HF7:Hid (FormB w6 g (left - 1 - (aq (ys.take (j+1)):Nat))):=Hd (by
      have h1:=HF6.out;have h2:=HST.out;rw [hl2] at h1;rw [h2];have e0:left - 1 - ((aq (ys.take j)+aC e:Nat):Int)=left - 1 - (aq (ys.take j):Nat) - (aC e:Nat):=by omega
      rw [e0]
      exact h1)
     clear hc hl2;(go_wp2_with fail);refine ⟨⟨j+1,by omega,by simp,HC,HF7,HO6⟩,?_⟩;simp [intOf];omega
   ·obtain rfl:j=L:=by omega
    have HTT:=Hd (show fmL ys=true by have:=HT.out;rwa [HL.out,List.take_length] at this);have HFF:=Hd (show FormB wr g (left - 1 - (aq ys:Nat)) by have:=HF.out;rwa [HL.out,List.take_length] at this);(go_wp2_with fail);go_ret;exact HHP.out _ _ _ (by rw [HTT.out];rfl) HFF.out (fun _=>rfl) HO.out
theorem xo:∀ N,XHas N
 | 0=>fun e he=>by cases e;unfold aC at he;omega
 | N+1=>has_step N (xo N)
theorem kf:Tryz.prog.built 33 []=some (ivA (0 :: blankP)):=by kernel_rfl
theorem lq:Tryz.prog.built 180 [(0,.agg (ivA (0 :: blankP))),(1,.map none)]=some (iV 0 blankP):=by kernel_rfl
theorem xq:(Tryz.prog.info? 180).map (·.size)=some (iV 0 blankP).size:=by kernel_rfl
theorem run0_one:(iV 0 blankP).all (·.oneCell')=true:=by simp [iV,iv,Value.oneCell']
theorem xr:(Tryz.prog.info? 180).map (fun i=>(i.zero,i.size))=some (some (.agg (iV 0 blankP)),62):=by kernel_rfl
theorem xt (w:World):(zeroValue 180).run Tryz.prog w=.ok (.agg (iV 0 blankP)) w:=by
 obtain ⟨i,hi,hz⟩:=Option.map_eq_some_iff.1 xr;simp only [Prod.mk.injEq] at hz;simp [zeroValue,typeInfo,hi,hz.1]
section
variable {w:World} {ops:Array Oper} {rest:List Oper} {o:Oper} {a:Act} {Q:Exit→Act→World→Prop}
theorem gO (hg:o.guard=none) (ho:o.op=.build 33 #[]) (h:wpList Tryz.prog ops Q rest (a.put o.dst (.agg (ivA (0 :: blankP)))) w):wpList Tryz.prog ops Q (o :: rest) a w:=by
 have e:((#[]:Array (Nat×Operand)).map fun (i,x)=>(i,a.eval x)).toList=[]:=by simp
 refine wpList_build hg _ _ ho (by rw [e,kf];rfl) ?_;rw [e,kf];exact h
theorem iu (hg:o.guard=none) (x y:Operand) (ho:o.op=.build 180 #[(0,x),(1,y)]) (hx:a.eval x=.agg (ivA (0 :: blankP))) (hy:a.eval y=.map none)
  (h:wpList Tryz.prog ops Q rest (a.put o.dst (.agg (iV 0 blankP))) w):wpList Tryz.prog ops Q (o :: rest) a w:=by
 have e:((#[(0,x),(1,y)]:Array (Nat×Operand)).map fun (i,x)=>(i,a.eval x)).toList=[(0,.agg (ivA (0 :: blankP))),(1,.map none)]:=by simp [hx,hy]
 refine wpList_build hg _ _ ho (by rw [e,lq];rfl) ?_;rw [e,lq];exact h
theorem kg (hg:o.guard=none) (hop:o.op=.alloc 180)
  (h:wpList Tryz.prog ops Q rest (a.put o.dst (.pointer (some ⟨w.heap.size,0,none⟩))) (w.alloc (.cells (iV 0 blankP) 180))):wpList Tryz.prog ops Q (o :: rest) a w:=
 d8 hg _ hop _ xt h
theorem iy (hgd:o.guard=none) (x y:Operand) (ho:o.op=.store 180 x y) (g:Nat) (hx:a.eval x=.pointer (some ⟨g,0,none⟩)) (hy:a.eval y=.agg (iV 0 blankP)) (hb:w.heap[g]?=some (.cells (iV 0 blankP) 180 (0,0)))
  (h:∀ w',R0 w' g→Only [g] w w'→wpList Tryz.prog ops Q rest (a.put o.dst undef) w'):wpList Tryz.prog ops Q (o :: rest) a w:=
 Go.Proofs.YtcebchffcmpfeaaGreat.wpList_store_row hgd _ x y ho g _ hx hy _ _ hb xq rfl run0_one (h _ ⟨iX _ hb⟩ ((Only.refl [g] w).setRow (.inl (by simp)) _))
end
theorem xu {w:World} {B:Nat→Prop} {e:E} {cs:List Value} (hev:EV w B e cs) (hw:wE e) (hg:gE e) (hc:t8 e=false) (hs:aC e≤480) :
    Calls Tryz.prog 104 #[.agg cs.toArray,.agg (ivA (0 :: blankP)),.map none] w fun en w'=>en=.returned (.tuple #[.int .i64 (if fmE e=true then exV blankP (bJ []) e else 0),if fmE e=true then .nilIface else err 13])∧Only [] w w':=by
  have HFX:=Hd (jL e hw);have HW:=Hd hw;have HG:=Hd hg;have HC:=Hd hc;have HEV:=Hd (EV.lt e cs hev);obtain ⟨k1,n1,nm1,ys1,p1⟩:=id e;obtain ⟨z0,z1,z2,z3,z4,rfl⟩:∃ z0 z1 z2 z3 z4,cs=[z0,z1,z2,z3,z4]:=by
    have hl:=hev.len
    match cs,hl with
    | [a,b,c,d,f],_=>exact ⟨a,b,c,d,f,rfl⟩
  obtain ⟨y0,y1,y2,ya,yl,yc,y4,rfl,rfl,rfl,rfl,rfl⟩:∃ (y0 y1:Int) (y2:ByteArray) (ya:Option Addr) (yl yc:Nat) (y4:Int),z0=.int .i64 y0∧z1=.int .i64 y1∧z2=.string y2∧z3=.slice ya yl yc∧z4=.int .i64 y4:=by
    obtain ⟨k,n,nm,ys,p⟩:=e;unfold EV at hev;obtain ⟨a,cap,he,-⟩:=hev;simp only [List.cons.injEq,and_true] at he;exact ⟨_,_,_,_,_,_,_,he.1,he.2.1,he.2.2.1,he.2.2.2.1,he.2.2.2.2⟩
  obtain ⟨RV,hRV⟩:∃ V:Int,V=(if fmE e=true then exV blankP (bJ []) e else 0):=⟨_,rfl⟩
  obtain ⟨RE,hRE⟩:∃ V:Value,V=(if fmE e=true then Value.nilIface else err 13):=⟨_,rfl⟩
  rw [← hRV,← hRE];have HRV:=Hd hRV;have HRE:=Hd hRE;clear hev hw hg hc hRV hRE;have T1:=trivial
  go_enter Tryz.func104,Tryz.ntmps104
  go_upto_region 2 with (first
    | (clear T1
       refine bw rfl _ rfl (0 :: blankP) (by rfl) ?_;intro w1 gp hbp hgp hop;have HBP:=Hd hbp;have HGP:=Hd hgp;have HOP:=Hd hop
       clear hbp hgp hop))
  have oA:Only [] w (w.alloc (.cells #[.int .i64 y0,.int .i64 y1,.string y2,.slice ya yl yc,.int .i64 y4] 95)):=(Only.refl _ _).alloc _;have hA:=ag w (.cells #[.int .i64 y0,.int .i64 y1,.string y2,.slice ya yl yc,.int .i64 y4] 95);have hsA:(w.alloc (.cells #[.int .i64 y0,.int .i64 y1,.string y2,.slice ya yl yc,.int .i64 y4] 95)).heap.size=w.heap.size+1:=Array.size_push _;have hgp:=HGP.out;rw [hsA] at hgp;obtain ⟨gb,hgb⟩:∃ g,g=w.heap.size:=⟨_,rfl⟩
  obtain ⟨gf,hgf⟩:∃ g,g=w1.heap.size:=⟨_,rfl⟩
  have hbp:=HBP.out.lt;have hlt1:gb < gp:=by omega
  have hlt2:gp < gf:=by omega
  have oF:Only [] w1 (w1.alloc (.cells #[.map none,.int .i64 480] 178)):=(Only.refl _ _).alloc _;have hF:=ag w1 (.cells #[.map none,.int .i64 480] 178);rw [← hgf] at hF⊢;have HO:=Hd ((oA.trans HOP.out (by simp)).trans oF (by simp));have hY:=oF.heap (HOP.out.heap hA (by simp)) (by simp);rw [← hgb] at hY⊢;have HY:=Hd hY;have HPG:=Hd (HBP.out.kept oF (by simp));have hnB:¬ (B gf∧gf < w.heap.size):=fun h=>by omega
  have HNF:=Hd hnB;have HGB:=Hd hgb;clear oA hA hsA hgp hgb hgf hbp HGP HOP HBP oF hY hnB;generalize w1.alloc (.cells #[.map none,.int .i64 480] 178)=w2 at hF HO HY HPG⊢;have x0:w2.cell? ⟨gb,0,none⟩=some (.int .i64 y0):=ab 0 HY.out;have x1:w2.cell? ⟨gb,1,none⟩=some (.int .i64 y1):=ab 1 HY.out;have x2:w2.cell? ⟨gb,2,none⟩=some (.string y2):=ab 2 HY.out;have x3:w2.cell? ⟨gb,3,none⟩=some (.slice ya yl yc):=ab 3 HY.out;have x4:w2.cell? ⟨gb,4,none⟩=some (.int .i64 y4):=ab 4 HY.out;have K1:=xo 480 e hs w2 gf 480 _ _ hF (by omega) (by omega) HW.out (HEV.out.quiet HO.out) HNF.out;clear hF;go_wp2_with fail
  refine K1.mono ?_;rintro en w3 ⟨l2,rfl,hf3,-,o3⟩;have hgf2:gf≠gb:=by omega
  have hgf3:gf≠gp:=by omega
  replace HY:=Hd (o3.heap HY.out (by simpa using fun e=>hgf2 e.symm));replace HPG:=Hd (HPG.out.kept o3 (by simpa using fun e=>hgf3 e.symm));have HO3:=Hd (HO.out.trans o3 (fun k hk=>.inr (by rw [List.mem_singleton.1 hk,← HGB.out];omega)));clear K1 x0 x1 x2 x3 x4 o3 hf3 HNF;cases hm:fmE e with
  | false=>
    obtain rfl:RV=0:=by rw [HRV.out,hm];rfl
    obtain rfl:RE=err 13:=by rw [HRE.out,hm];rfl
    clear hm HRV HRE;go_wp2_with fail
    go_ret2
    exact ⟨rfl,HO3.out⟩
  | true=>
    have hfx:mg e=true:=by rw [HFX.out,hm,HC.out];rfl
    have HF:=Hd hfx;replace HRV:=Hd (show RV=exV blankP (bJ []) e by rw [HRV.out,hm];rfl);obtain rfl:RE=.nilIface:=by rw [HRE.out,hm];rfl
    clear hm hfx HRE
    go_upto_region 5 with (first
      | (refine aF rfl _ rfl gp (by rfl) _ HPG.out (by rfl) ?_)
      | (refine kg rfl rfl ?_)
      | (refine iu rfl _ _ rfl (by rfl) (by rfl) ?_)
      | (refine iy rfl _ _ rfl _ (by rfl) (by rfl) (ag _ _) ?_
         intro w6 hr6 ho6))
    have oR:Only [] w3 (w3.alloc (.cells (iV 0 blankP) 180)):=(Only.refl _ _).alloc _;have o36:Only [] w3 w6:=oR.trans ho6 (fun k hk=>.inr (by rw [List.mem_singleton.1 hk];exact Nat.le_refl _));replace HY:=Hd (o36.heap HY.out (by simp));have HO6:=Hd (HO3.out.trans o36 (by simp));have KX:=p0_all 480 e hs HF.out w6 _ _ _ hr6 HW.out HG.out (HEV.out.quiet HO6.out);have x0:w6.cell? ⟨gb,0,none⟩=some (.int .i64 y0):=ab 0 HY.out;have x1:w6.cell? ⟨gb,1,none⟩=some (.int .i64 y1):=ab 1 HY.out;have x2:w6.cell? ⟨gb,2,none⟩=some (.string y2):=ab 2 HY.out;have x3:w6.cell? ⟨gb,3,none⟩=some (.slice ya yl yc):=ab 3 HY.out;have x4:w6.cell? ⟨gb,4,none⟩=some (.int .i64 y4):=ab 4 HY.out;rw [← HRV.out] at KX;clear hr6 ho6 oR o36;(go_wp2_with fail);refine KX.mono ?_;rintro en w7 ⟨rfl,o7⟩;go_wp2_with fail
    go_ret2
    exact ⟨rfl,HO6.out.trans o7 (by simp)⟩
theorem eql_nil0 (w:World):(binOp .eql 36 .nilIface .nilIface).run Tryz.prog w=.ok (.bool true) w:=by kernel_rfl
theorem eql_err0 (n:Int) (w:World):(binOp .eql 36 (err n) .nilIface).run Tryz.prog w=.ok (.bool false) w:=by kernel_rfl
theorem EV.cells {w:World} {B:Nat→Prop} {e:E} {cs:List Value} (hev:EV w B e cs):∃ (y0 y1:Int) (y2:ByteArray) (ya:Option Addr) (yl yc:Nat) (y4:Int),cs=[.int .i64 y0,.int .i64 y1,.string y2,.slice ya yl yc,.int .i64 y4]:=by
 obtain ⟨k,n,nm,ys,p⟩:=e;unfold EV at hev;obtain ⟨a,cap,rfl,-⟩:=hev;exact ⟨_,_,_,_,_,_,_,rfl⟩
theorem tE {w:World} {B:Nat→Prop} {e:E} {cs:List Value} (hev:EV w B e cs) (hw:wE e) (hg:gE e) (hs:aC e≤480) :
  Calls Tryz.prog 67 #[.agg cs.toArray] w fun en w'=>en=.returned (.tuple #[.int .i64 (if mg e=true then exV blankP (bJ []) e else 0),.bool (mg e)])∧Only [] w w':=by
 have HFX:=Hd (jL e hw);have HW:=Hd hw;have HG:=Hd hg;have HEV:=Hd hev;obtain ⟨y0,y1,y2,ya,yl,yc,y4,rfl⟩:=hev.cells;obtain ⟨RV,hRV⟩:∃ V:Int,V=(if mg e=true then exV blankP (bJ []) e else 0):=⟨_,rfl⟩
 obtain ⟨RT,hRT⟩:∃ V:Bool,V=mg e:=⟨_,rfl⟩
 rw [← hRV,← hRT];have HRV:=Hd hRV;have HRT:=Hd hRT;have oA:Only [] w (w.alloc (.cells #[.int .i64 y0,.int .i64 y1,.string y2,.slice ya yl yc,.int .i64 y4] 95)):=(Only.refl _ _).alloc _;have hA:=ag w (.cells #[.int .i64 y0,.int .i64 y1,.string y2,.slice ya yl yc,.int .i64 y4] 95);obtain ⟨gb,hgb⟩:∃ g,g=w.heap.size:=⟨_,rfl⟩
 rw [← hgb] at hA;obtain ⟨w1,hw1⟩:∃ w1,w1=w.alloc (.cells #[.int .i64 y0,.int .i64 y1,.string y2,.slice ya yl yc,.int .i64 y4] 95):=⟨_,rfl⟩
 rw [← hw1] at oA hA;have HW1:=Hd hw1;have HGB:=Hd hgb;have HO:=Hd oA;have HY:=Hd hA;have x0:w1.cell? ⟨gb,0,none⟩=some (.int .i64 y0):=ab 0 hA;have x1:w1.cell? ⟨gb,1,none⟩=some (.int .i64 y1):=ab 1 hA;have x2:w1.cell? ⟨gb,2,none⟩=some (.string y2):=ab 2 hA;have x3:w1.cell? ⟨gb,3,none⟩=some (.slice ya yl yc):=ab 3 hA;have x4:w1.cell? ⟨gb,4,none⟩=some (.int .i64 y4):=ab 4 hA;have K1:=j9 480 (by decide) e hs w1 _ B (hev.quiet oA);clear hev hw hg hRV hRT oA hA hw1 hgb
 go_enter Tryz.func67,Tryz.ntmps67
 go_upto_region 1 with (fail)
 rw [← HGB.out,← HW1.out];go_wp2_with fail
 refine K1.mono ?_;rintro en w2 ⟨rfl,o2⟩;replace HO:=Hd (HO.out.trans o2 (by simp));replace HY:=Hd (o2.heap HY.out (by simp));clear K1 x0 x1 x2 x3 x4 o2;cases hc:t8 e with
 | true=>
  obtain rfl:RT=false:=by rw [HRT.out,HFX.out,hc];rfl
  obtain rfl:RV=0:=by rw [HRV.out,← HRT.out];rfl
  clear hc HRV HRT;go_wp2_with fail
  go_ret2
  exact ⟨rfl,HO.out⟩
 | false=>
  have hfm:fmE e=RT:=by rw [HRT.out,HFX.out,hc];simp
  have x0:w2.cell? ⟨gb,0,none⟩=some (.int .i64 y0):=ab 0 HY.out;have x1:w2.cell? ⟨gb,1,none⟩=some (.int .i64 y1):=ab 1 HY.out;have x2:w2.cell? ⟨gb,2,none⟩=some (.string y2):=ab 2 HY.out;have x3:w2.cell? ⟨gb,3,none⟩=some (.slice ya yl yc):=ab 3 HY.out;have x4:w2.cell? ⟨gb,4,none⟩=some (.int .i64 y4):=ab 4 HY.out;have K2:=xu (HEV.out.quiet HO.out) HW.out HG.out hc hs;rw [hfm,HRT.out,← HRV.out,← HRT.out] at K2;obtain ⟨RE,hRE⟩:∃ V:Value,V=(if RT=true then Value.nilIface else err 13):=⟨_,rfl⟩
  rw [← hRE] at K2;have HRE:=Hd hRE;clear hc hfm hRE;go_wp2_with (refine gO rfl rfl ?_)
  refine K2.mono ?_;rintro en w3 ⟨rfl,o3⟩;replace HO:=Hd (HO.out.trans o3 (by simp));clear K2 x0 x1 x2 x3 x4 o3;cases RT with
  | true=>
   obtain rfl:RE=.nilIface:=HRE.out;have hq:=eql_nil0;clear HRE;go_upto_region 4 with (fail)
   go_quiet (fail)
   go_wp2
   go_ret2
   exact ⟨rfl,HO.out.trans (by refine ⟨rfl,rfl,rfl,Nat.le_refl _,fun _ _ _=>rfl⟩) (T:=[]) (by simp)⟩
  | false=>
   obtain rfl:RE=err 13:=HRE.out;have hq:=eql_err0;clear HRE;go_upto_region 4 with (fail)
   go_quiet (fail)
   go_wp2
   go_ret2
   exact ⟨rfl,HO.out.trans (by refine ⟨rfl,rfl,rfl,Nat.le_refl _,fun _ _ _=>rfl⟩) (T:=[]) (by simp)⟩
end Go.Proofs.YtcebchffcmpfeaaGreat
