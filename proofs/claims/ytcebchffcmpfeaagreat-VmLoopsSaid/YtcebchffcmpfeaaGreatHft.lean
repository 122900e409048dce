import Derived.Test.YtcebchffcmpfeaaGreatHit
namespace Go.Proofs.YtcebchffcmpfeaaGreat
set_option linter.unusedVariables false
set_option linter.unusedSimpArgs false
set_option maxRecDepth 100000
set_option maxHeartbeats 16000000
open Go.RowKit Go.Maps
structure Named (d:Df) (s:MS):Prop where
 pa:s.pa=d.params.length
 lo:s.lo=(((eU d).length+(io 8 d).length:Nat):Int)
 ins:s.ins=[]
 lps:s.lps=[]
 lc:∀ nm∈eU d,s.nv.lc nm=(refV (eU d) (io 8 d)).lc nm
 c7:∀ nm∈io 7 d,s.nv.c7 nm=(refV (eU d) (io 8 d)).c7 nm
 c8:∀ nm∈io 8 d,s.nv.c8 nm=(refV (eU d) (io 8 d)).c8 nm
def Ord (d:Df):Prop:=∃ l,Inc l∧l.Perm (aA d.body)
structure DfOk (d:Df):Prop where
 whole:Whole d
 plain:pB d.body
 good:Good d
 ord:Ord d
def MS0:MS:=⟨0,0,[],[],bJ [],bJ []⟩
def NamesC:Prop:=∀ (w:World) (base g:Nat) (v u:Value) (bl bc:Nat) (d:Df) (cs:List Value) (B:Nat→Prop),MK w base g MS0 v u bl bc→NMap w bl 3 0 0 MS0.lm→NMap w bc 3 0 0 MS0.cm→base≤bl→base≤bc→bl≠bc→base≤w.heap.size→DV w B d cs→(∀ b,B b→b < base)→DfOk d→(opS CS.new d).flt=none→
 Calls Tryz.prog 35 #[.pointer (some ⟨g,0,none⟩),.agg cs.toArray] w fun en w'=>en=.returned (.tuple #[])∧∃ s',Named d s'∧MK w' base g s' v u bl bc∧Only [g,bl,bc] w w'
section
variable {F G:Nv} {L A C:List Sec}
mutual
theorem ko (hL:∀ nm∈L,F.lc nm=G.lc nm):∀ e:E,inE L e→gx F e=gx G e
 | .mk k n nm xs p,h=>by
  unfold inE at h;unfold gx;rw [kp hL xs h.2]
  by_cases hf:mg (.mk k n nm xs p)=true
  ·rw [if_pos hf,if_pos hf]
  ·rw [if_neg hf,if_neg hf]
   by_cases hk:k=2
   ·rw [if_pos hk,if_pos hk];have ht:rA nm=false:=by
     cases ht:rA nm with
     | false=>rfl
     | true=>
      exfalso;apply hf;unfold mg;rw [if_neg (by omega),if_pos hk];exact ht
    rw [hL nm (h.1 hk ht)]
   ·rw [if_neg hk,if_neg hk]
theorem kp (hL:∀ nm∈L,F.lc nm=G.lc nm):∀ xs:List E,jP L xs→cM F xs=cM G xs
 | [],_=>by unfold cM;rfl
 | x :: xs,h=>by
  unfold jP at h;unfold cM;rw [ko hL x h.1,kp hL xs h.2]
end
mutual
theorem xx (hL:∀ nm∈L,F.lc nm=G.lc nm) (hA:∀ nm∈A,F.c7 nm=G.c7 nm) (hC:∀ nm∈C,F.c8 nm=G.c8 nm):∀ (x:St) (h:Nat) (lp:List Lp),inSt L A C x→mE F x h lp=mE G x h lp
 | .mk k nm xs n bd els p,h,lp,hi=>by
  unfold inSt at hi;obtain ⟨i1,ia,i2,i3,i4,i5⟩:=hi;have e1:=kp hL xs i3;have e2:=fun h lp=>gQ hL hA hC bd h lp i4;have e3:=fun h lp=>gQ hL hA hC els h lp i5;unfold mE;rw [e1];simp only [e2,e3]
  by_cases h1:k=1
  ·rw [if_pos h1,if_pos h1,hL nm (i1 (.inl h1))]
  ·rw [if_neg h1,if_neg h1]
   by_cases h6:k=6
   ·rw [if_pos h6,if_pos h6]
   ·rw [if_neg h6,if_neg h6]
    by_cases h7:k=7
    ·rw [if_pos h7,if_pos h7,hA nm (ia h7)]
    ·rw [if_neg h7,if_neg h7]
     by_cases h8:k=8
     ·rw [if_pos h8,if_pos h8,hC nm (i2 h8),hL nm (i1 (.inr (.inr h8)))]
     ·rw [if_neg h8,if_neg h8]
theorem gQ (hL:∀ nm∈L,F.lc nm=G.lc nm) (hA:∀ nm∈A,F.c7 nm=G.c7 nm) (hC:∀ nm∈C,F.c8 nm=G.c8 nm):∀ (xs:List St) (h:Nat) (lp:List Lp),xY L A C xs→cB F xs h lp=cB G xs h lp
 | [],h,lp,_=>by unfold cB;rfl
 | x :: xs,h,lp,hi=>by
  unfold xY at hi;rw [eD,eD,xx hL hA hC x h lp hi.1];rw [gQ hL hA hC xs _ _ hi.2]
end
theorem lx (hL:∀ nm∈L,F.lc nm=G.lc nm):∀ xs:List E,jP L xs→dx F xs=dx G xs
 | [],_=>rfl
 | x :: xs,h=>by
  unfold jP at h;unfold dx;rw [ko hL x h.1,lx hL xs h.2]
theorem ly (hL:∀ nm∈L,F.lc nm=G.lc nm):∀ xs:List E,jP L xs→cE F xs=cE G xs
 | [],_=>rfl
 | x :: xs,h=>by
  unfold jP at h;unfold cE;rw [ko hL x h.1,ly hL xs h.2]
end
theorem tI {d:Df} {s:MS} (h:Named d s) (hw:Whole d) (hp:pB d.body) (hf:(opS CS.new d).flt=none):genC s.nv s.lo d=genD d:=by
 obtain ⟨h1,h2,h3⟩:=code_in hw hp hf;unfold genD genC;dsimp only;rw [lx h.lc _ h1,gQ h.lc h.c7 h.c8 _ _ _ h2,ly h.lc _ h3,h.lo]
theorem ov (F:Nv) (a b:List E):dx F (a++b)=dx F a++dx F b:=by
 induction a with
 | nil=>rfl
 | cons x a ih=>
  show gx F x++[(15,0)]++dx F (a++b)=(gx F x++[(15,0)]++dx F a)++dx F b;rw [ih,List.append_assoc,List.append_assoc,List.append_assoc]
theorem oy (F:Nv) (a b:List E):cE F (a++b)=cE F a++cE F b:=by
 induction a with
 | nil=>rfl
 | cons x a ih=>
  show gx F x++[(16,0)]++cE F (a++b)=(gx F x++[(16,0)]++cE F a)++cE F b;rw [ih,List.append_assoc,List.append_assoc,List.append_assoc]
theorem tJ (F:Nv) {xs:List E} {j:Nat} {e:E} (h:xs[j]?=some e):dx F (xs.take (j+1))=dx F (xs.take j)++gx F e++[(15,0)]:=by
 rw [List.take_add_one,h,Option.toList_some,ov];simp [dx]
theorem tK (F:Nv) {xs:List E} {j:Nat} {e:E} (h:xs[j]?=some e):cE F (xs.take (j+1))=cE F (xs.take j)++gx F e++[(16,0)]:=by
 rw [List.take_add_one,h,Option.toList_some,oy];simp [cE]
theorem kq (F:Nv):∀ xs:List E,(dx F xs).length≤2*aq xs
 | []=>by simp [dx]
 | x :: xs=>by
  have h1:=gz F x;have h2:=kq F xs;have h3:1≤aC x:=by cases x;unfold aC;omega
  unfold dx;rw [List.length_append,List.length_append,List.length_singleton,aE];omega
theorem oH (F:Nv):∀ xs:List E,(cE F xs).length≤2*aq xs
 | []=>by simp [cE]
 | x :: xs=>by
  have h1:=gz F x;have h2:=oH F xs;have h3:1≤aC x:=by cases x;unfold aC;omega
  unfold cE;rw [List.length_append,List.length_append,List.length_singleton,aE];omega
def rM (d:Df):Cd×Int:=if (opS CS.new d).flt.isSome=true then (⟨0,0,[],[]⟩,13) else (genD d,0)
def errQ (k:Int):Value:=if k=0 then .nilIface else err k
def CoPost (w:World) (c:Cd×Int) (en:Ending) (w':World):Prop:=
 ∃ v u,en=.returned (.tuple #[.agg #[.int .i64 c.1.params,.int .i64 c.1.locals,v,u],errQ c.2])∧OIns w' w.heap.size v c.1.ins∧OLps w' w.heap.size u c.1.loops∧Only [] w w'
theorem neq_flt0 (g:Nat) (w:World):(binOp .neq 36 (.iface 117 (.pointer (some ⟨g,0,none⟩))) .nilIface).run Tryz.prog w=.ok (.bool true) w:=by kernel_rfl
theorem neq_nil0 (w:World):(binOp .neq 36 .nilIface .nilIface).run Tryz.prog w=.ok (.bool false) w:=by kernel_rfl
theorem DV.parts0 {w:World} {B:Nat→Prop} {d:Df} {u v1 v2 v3 v4:Value} (h:DV w B d [u,v1,v2,v3,v4]):NmV w B v1 d.params∧EsV w B v2 d.needs∧SsV w B v3 d.body∧EsV w B v4 d.give:=by
 obtain ⟨x1,x2,x3,x4,e,h1,h2,h3,h4⟩:=h;cases e;exact ⟨h1,h2,h3,h4⟩
theorem xy (w:World) (g:Nat) (v0 v1 v2 v3:Value) (h:w.heap[g]?=some (.cells #[v0,v1,v2,v3] 25 (0,0))):(loadVar 25 ⟨g,0,none⟩).run Tryz.prog w=.ok (.agg #[v0,v1,v2,v3]) w:=by
 have c0:w.cell? ⟨g,0,none⟩=some v0:=ab 0 h;have c1:w.cell? ⟨g,1,none⟩=some v1:=ab 1 h;have c2:w.cell? ⟨g,2,none⟩=some v2:=ab 2 h;have c3:w.cell? ⟨g,3,none⟩=some v3:=ab 3 h;clear h;simp [go_sem,c0,c1,c2,c3]
theorem kr (tmps:Array Value) (w:World) (g:Nat) (v0 v1 v2 v3 ev:Value) (h2:tmps.getD 2 undef=.pointer (some ⟨g,0,none⟩)) (h3:tmps.getD 3 undef=ev) (h:w.heap[g]?=some (.cells #[v0,v1,v2,v3] 25 (0,0))) :
  (results Tryz.f19 tmps).run Tryz.prog w=.ok (.tuple #[.agg #[v0,v1,v2,v3],ev]) w:=by
 have hl:=xy w g v0 v1 v2 v3 h;have h2':tmps[2]?.getD undef=.pointer (some ⟨g,0,none⟩):=by simpa using h2
 have h3':tmps[3]?.getD undef=ev:=by simpa using h3
 simp [results,Tryz.results19,asAddr,h2',h3',hl]
theorem xz {d:Df} (h:(opS CS.new d).flt=none):(opB CS.new d).flt=none:=aP d.give _ _ (l9 h).1
theorem qx (hNC:NamesC) {w:World} {B:Nat→Prop} {d:Df} {cs:List Value} (hd:DV w B d cs) (hk:DfOk d):Calls Tryz.prog 19 #[.agg cs.toArray] w (CoPost w (rM d)):=by
 obtain ⟨v1,v2,v3,v4,rfl,hv1,hv2,hv3,hv4⟩:=id hd;obtain ⟨a1,c1,rfl,-⟩:=hv1;obtain ⟨a2,c2,rfl,-⟩:=hv2;obtain ⟨a3,c3,rfl,-⟩:=hv3;obtain ⟨a4,c4,rfl,-⟩:=hv4;have HD:=Hd hd.lt;obtain ⟨R,hR⟩:∃ R,R=rM d:=⟨_,rfl⟩
 rw [← hR];unfold rM at hR;have HR:=Hd hR;obtain ⟨sn,hsn⟩:∃ sn,sn=aj d.name:=⟨_,rfl⟩
 obtain ⟨L1,hL1⟩:∃ L,L=d.params.length:=⟨_,rfl⟩
 obtain ⟨L2,hL2⟩:∃ L,L=d.needs.length:=⟨_,rfl⟩
 obtain ⟨L3,hL3⟩:∃ L,L=d.body.length:=⟨_,rfl⟩
 obtain ⟨L4,hL4⟩:∃ L,L=d.give.length:=⟨_,rfl⟩
 rw [← hsn,← hL1,← hL2,← hL3,← hL4] at HD;rw [← hsn,← hL1,← hL2,← hL3,← hL4];have HPT:=Hd HD.out.parts0;have HL2:=Hd hL2;have HL4:=Hd hL4;have HK:=Hd hk;have HNC:=Hd hNC;clear hd hk hR hsn hL1 hL2 hL3 hL4 hNC;have oA:Only [] w (w.alloc (.cells #[.string sn,.slice a1 L1 c1,.slice a2 L2 c2,.slice a3 L3 c3,.slice a4 L4 c4] 60)):=(Only.refl _ _).alloc _;have hA:=ag w (.cells #[.string sn,.slice a1 L1 c1,.slice a2 L2 c2,.slice a3 L3 c3,.slice a4 L4 c4] 60);obtain ⟨gd,hgd⟩:∃ g,g=w.heap.size:=⟨_,rfl⟩
 have hsA:(w.alloc (.cells #[.string sn,.slice a1 L1 c1,.slice a2 L2 c2,.slice a3 L3 c3,.slice a4 L4 c4] 60)).heap.size=gd+1:=by rw [hgd];exact Array.size_push _
 obtain ⟨wA,hwA⟩:∃ wA,wA=w.alloc (.cells #[.string sn,.slice a1 L1 c1,.slice a2 L2 c2,.slice a3 L3 c3,.slice a4 L4 c4] 60):=⟨_,rfl⟩
 rw [← hgd] at hA;rw [← hwA] at oA hA hsA;have oR:Only [] wA (wA.alloc (.cells #[.int .i64 0,.int .i64 0,.slice none 0 0,.slice none 0 0] 25)):=(Only.refl _ _).alloc _;have hRr:=ag wA (.cells #[.int .i64 0,.int .i64 0,.slice none 0 0,.slice none 0 0] 25);obtain ⟨gr,hgr⟩:∃ g,g=gd+1:=⟨_,rfl⟩
 rw [hsA,← hgr] at hRr;obtain ⟨w1,hw1⟩:∃ w1,w1=wA.alloc (.cells #[.int .i64 0,.int .i64 0,.slice none 0 0,.slice none 0 0] 25):=⟨_,rfl⟩
 rw [← hw1] at oR hRr;have HWW:=Hd (And.intro hwA (And.intro hw1 (And.intro hgd (And.intro hsA hgr))));have HO:=Hd (oA.trans oR (by simp));have HY:=Hd (oR.heap hA (by simp));have HRB:=Hd hRr;have hlt1:gd < gr:=by omega
 have HGD:=Hd hgd;clear oA hA oR hRr hwA hw1 hgd hsA hgr;have y0:w1.cell? ⟨gd,0,none⟩=some (.string sn):=ab 0 HY.out;have y1:w1.cell? ⟨gd,1,none⟩=some (.slice a1 L1 c1):=ab 1 HY.out;have y2:w1.cell? ⟨gd,2,none⟩=some (.slice a2 L2 c2):=ab 2 HY.out;have y3:w1.cell? ⟨gd,3,none⟩=some (.slice a3 L3 c3):=ab 3 HY.out;have y4:w1.cell? ⟨gd,4,none⟩=some (.slice a4 L4 c4):=ab 4 HY.out;have K1:=vP (HD.out.kept HO.out (by simp) (fun _ h=>h)) HK.out.whole HK.out.plain
 go_enter Tryz.func19,Tryz.ntmps19
 go_upto_region 1 with (fail)
 rw [← HWW.out.1,← HWW.out.2.1,← HWW.out.2.2.1,← HWW.out.2.2.2.2];go_wp2_with fail
 refine K1.mono ?_;rintro e w2 ⟨ev,rfl,hfz,o2⟩;replace HO:=Hd (HO.out.trans o2 (by simp));replace HY:=Hd (o2.heap HY.out (by simp));replace HRB:=Hd (o2.heap HRB.out (by simp));have HFZ:=Hd hfz;obtain ⟨i0,ci0,pi0,hi0⟩:∃ i c p,chkD d=(i,c,p):=⟨_,_,_,rfl⟩
 rw [hi0];obtain ⟨im,ist,inn,itu⟩:=i0;unfold infoV;dsimp only;obtain ⟨st',hst⟩:∃ x:Int,x=ist:=⟨_,rfl⟩
 obtain ⟨nm',hnm⟩:∃ x:Int,x=inn:=⟨_,rfl⟩
 rw [← hst,← hnm];clear K1 o2 hfz hi0 hst hnm y0 y1 y2 y3 y4 HWW;go_upto_region 2 with (fail)
 obtain ⟨w4,q9,o4,-,-⟩:=nb w2 (.cells #[.int .i64 im,.int .i64 st',.int .i64 nm',.bool itu] 87);rw [← q9];clear q9;replace HO:=Hd (HO.out.trans o4 (by simp));replace HY:=Hd (o4.heap HY.out (by simp));replace HRB:=Hd (o4.heap HRB.out (by simp));replace HFZ:=Hd (HFZ.out.quiet o4);clear o4;cases hflt:(opS CS.new d).flt with
 | some x=>
  obtain ⟨cc,pp⟩:=x;have hfz:=HFZ.out;rw [hflt] at hfz;obtain ⟨fg,rfl,-⟩:=hfz;have hRR:=HR.out;rw [hflt,if_pos (show (some (cc,pp)).isSome=true from rfl)] at hRR;subst hRR;have q1:=neq_flt0 fg;have z0:w4.cell? ⟨gr,0,none⟩=some (.int .i64 0):=ab 0 HRB.out;have z1:w4.cell? ⟨gr,1,none⟩=some (.int .i64 0):=ab 1 HRB.out;have z2:w4.cell? ⟨gr,2,none⟩=some (.slice none 0 0):=ab 2 HRB.out;have z3:w4.cell? ⟨gr,3,none⟩=some (.slice none 0 0):=ab 3 HRB.out;have f0:=ae 0 HRB.out;have f1:=ae 1 HRB.out;have f2:=ae 2 HRB.out;have f3:=ae 3 HRB.out;clear hflt HFZ HR;go_wp2_with fail
  (try simp only [Exit.inBlock,Exit.then]);refine bodyPost_ret (kr _ _ gr _ _ _ _ (err 13) rfl rfl (ci HRB.out _ _ _ _)) rfl ?_;have oz:=kn w4 gr (.int .i64 0) (.int .i64 0) (.slice none 0 0) (.slice none 0 0);refine ⟨_,_,rfl,OR.nil _ _,OR.nil _ _,HO.out.trans oz (fun k hk=>.inr (by rw [List.mem_singleton.1 hk];have:=HGD.out;omega))⟩
 | none=>
  have hfz:=HFZ.out;rw [hflt] at hfz;have hfz:ev=.nilIface:=hfz;subst hfz;have hRR:=HR.out;rw [hflt,if_neg (show ¬ (none:Option (Int×Int)).isSome=true by decide)] at hRR;replace HR:=Hd hRR;have HFL:=Hd hflt;have q1:=neq_nil0;have hm2:=@run_makeMap Tryz.prog 90;clear hRR hflt HFZ;go_upto_region 5 with (fail)
  have oB:Only [] w4 (w4.alloc (.map #[] 0)):=(Only.refl _ _).alloc _;have hmB:NMap (w4.alloc (.map #[] 0)) w4.heap.size 3 0 0 (fun _=>none):=NMap.made w4 _;have hsB:(w4.alloc (.map #[] 0)).heap.size=w4.heap.size+1:=Array.size_push _;obtain ⟨w5,hw5⟩:∃ w5,w5=w4.alloc (.map #[] 0):=⟨_,rfl⟩
  rw [← hw5] at oB hmB hsB⊢;have oC:Only [] w5 (w5.alloc (.map #[] 0)):=(Only.refl _ _).alloc _;have hmC:NMap (w5.alloc (.map #[] 0)) w5.heap.size 3 0 0 (fun _=>none):=NMap.made w5 _;have hsC:(w5.alloc (.map #[] 0)).heap.size=w5.heap.size+1:=Array.size_push _;obtain ⟨w6,hw6⟩:∃ w6,w6=w5.alloc (.map #[] 0):=⟨_,rfl⟩
  rw [← hw6] at oC hmC hsC⊢;obtain ⟨bl,hbl⟩:∃ b,b=w4.heap.size:=⟨_,rfl⟩
  obtain ⟨bc,hbc⟩:∃ b,b=w5.heap.size:=⟨_,rfl⟩
  have hbc':bc=bl+1:=by omega
  obtain ⟨g,hg⟩:∃ g,g=bc+1:=⟨_,rfl⟩
  have hg6:w6.heap.size=g:=by omega
  rw [← hbl] at hmB⊢;rw [← hbc] at hmC;rw [← hbc',← hg];have oD:Only [] w6 (w6.alloc (.cells #[.int .i64 0,.int .i64 0,.slice none 0 0,.slice none 0 0,.map (some bl),.map (some bc)] 92)):=(Only.refl _ _).alloc _;have hmk:=ag w6 (.cells #[.int .i64 0,.int .i64 0,.slice none 0 0,.slice none 0 0,.map (some bl),.map (some bc)] 92);rw [hg6] at hmk;obtain ⟨w7,hw7⟩:∃ w7,w7=w6.alloc (.cells #[.int .i64 0,.int .i64 0,.slice none 0 0,.slice none 0 0,.map (some bl),.map (some bc)] 92):=⟨_,rfl⟩
  rw [← hw7] at oD hmk⊢;have hlr:=ak HRB.out;have hld:=HGD.out;replace HO:=Hd (((HO.out.trans oB (by simp)).trans oC (by simp)).trans oD (by simp));replace HY:=Hd (oD.heap (oC.heap (oB.heap HY.out (by simp)) (by simp)) (by simp));replace HRB:=Hd (oD.heap (oC.heap (oB.heap HRB.out (by simp)) (by simp)) (by simp));have hM:MK w7 w.heap.size g MS0 (.slice none 0 0) (.slice none 0 0) bl bc:=
   ⟨hmk,by omega,OR.nil _ _,OR.nil _ _,⟨0,by omega,(hmB.kept oC (by simp)).kept oD (by simp)⟩,⟨0,by omega,hmC.kept oD (by simp)⟩⟩
  have HM:=Hd hM;have HBD:=Hd (show Bx w7 g (.slice none 0 0) (.slice none 0 0) gd _ from ⟨HY.out,by omega,by simp [Value.ownBlock],by simp [Value.ownBlock]⟩);have HBR:=Hd (show Bx w7 g (.slice none 0 0) (.slice none 0 0) gr _ from ⟨HRB.out,by omega,by simp [Value.ownBlock],by simp [Value.ownBlock]⟩);have HBW:=Hd (show w.heap.size≤w7.heap.size from HO.out.size);have HNE:=Hd (show w.heap.size≤g∧w.heap.size≤bl∧w.heap.size≤bc∧(gd≠g∧gd≠bl∧gd≠bc)∧gr≠g∧gr≠bl∧gr≠bc by omega);have hKN:=HNC.out w7 w.heap.size g _ _ bl bc d _ _ hM ((hmB.kept oC (by simp)).kept oD (by simp)) (hmC.kept oD (by simp)) HNE.out.2.1 HNE.out.2.2.1 (by omega) HO.out.size (HD.out.kept HO.out (by simp) (fun _ h=>h)) (fun b h=>h.2) HK.out HFL.out;have x0:w7.cell? ⟨gd,0,none⟩=some (.string sn):=ab 0 HY.out;have x1:w7.cell? ⟨gd,1,none⟩=some (.slice a1 L1 c1):=ab 1 HY.out;have x2:w7.cell? ⟨gd,2,none⟩=some (.slice a2 L2 c2):=ab 2 HY.out;have x3:w7.cell? ⟨gd,3,none⟩=some (.slice a3 L3 c3):=ab 3 HY.out;have x4:w7.cell? ⟨gd,4,none⟩=some (.slice a4 L4 c4):=ab 4 HY.out;clear oB hmB hsB hw5 oC hmC hsC hw6 hbl hbc hbc' hg hg6 oD hmk hw7 hlr hld hM HY HRB hm2 q1;go_wp2_with fail
  refine hKN.mono ?_;rintro en w8 ⟨rfl,s1,hnd,m8,o8⟩;have HND:=Hd hnd;obtain ⟨va,hva⟩:∃ v:Value,v=.slice none 0 0:=⟨_,rfl⟩
  obtain ⟨ua,hua⟩:∃ v:Value,v=.slice none 0 0:=⟨_,rfl⟩
  have HO8:=Hd (HO.out.trans o8 (fun k hk=>.inr (by have:=HNE.out;simp only [List.mem_cons,List.not_mem_nil,or_false] at hk;omega)));replace HBD:=Hd (show Bx w8 g va ua gd _ from ⟨o8.heap HBD.out.heap (by have:=HNE.out;simp only [List.mem_cons,List.not_mem_nil,or_false];omega),HBD.out.ng,by rw [hva];simp [Value.ownBlock],by rw [hua];simp [Value.ownBlock]⟩);replace HBR:=Hd (show Bx w8 g va ua gr _ from ⟨o8.heap HBR.out.heap (by have:=HNE.out;simp only [List.mem_cons,List.not_mem_nil,or_false];omega),HBR.out.ng,by rw [hva];simp [Value.ownBlock],by rw [hua];simp [Value.ownBlock]⟩);replace m8:MK w8 w.heap.size g s1 va ua bl bc:=by rw [hva,hua];exact m8
  have HKS:=Hd (MTo.keeps (w':=w8) (v':=va) (u':=ua) m8 (B:=fun b=>B b∧b < w.heap.size) (fun b h=>h.2));have hks7:∀ k∈[g,bl,bc],¬ (B k∧k < w.heap.size):=fun k hk hb=>by have:=HNE.out;simp only [List.mem_cons,List.not_mem_nil,or_false] at hk;omega
  replace HPT:=Hd (And.intro ((HPT.out.2.1.kept HO.out (by simp) (fun _ h=>h)).kept o8 hks7 (fun _ h=>h)) (And.intro (SsV.kept o8 hks7 (fun _ h=>h) (SsV.kept HO.out (by simp) (fun _ h=>h) HPT.out.2.2.1)) ((HPT.out.2.2.2.kept HO.out (by simp) (fun _ h=>h)).kept o8 hks7 (fun _ h=>h))));replace HM:=Hd (show MK w8 w.heap.size g (MSb s1 ([],s1.lps)) va ua bl bc by rw [ou];exact m8);replace HBW:=Hd (show w.heap.size≤w8.heap.size from HO8.out.size);have HT:=Hd (MTo.refl w8 g va ua);have hsz:=HK.out.whole.size;have HSZ:=Hd hsz;have hL2:L2≤480:=by have:=dh d.needs;have:=HL2.out;omega
  have hL4:L4≤480:=by have:=dh d.give;have:=HL4.out;omega
  have HI0:=Hd (show s1.ins.length=0 by rw [HND.out.ins];rfl);have MKl:=Hd (MK.below m8 (MTo.refl w8 g va ua));clear m8 o8 hks7 hnd hKN hva hua x0 x1 x2 x3 x4 hsz;have x2:w8.cell? ⟨gd,2,none⟩=some (.slice a2 L2 c2):=ab 2 HBD.out.heap;go_wp2_with fail
  clear x2;have HPRE:=Hd (show ([]:List Ins).length≤100000 by simp);obtain ⟨PRE,hpre⟩:∃ l:List Ins,l=[]:=⟨_,rfl⟩
  rw [← hpre] at HM HPRE
  go_loopw [28] (fun ix wr=>∃ (j:Nat) (vj:Value),j≤L2∧ix=.int .i64 (j:Int)∧Hid (MK wr w.heap.size g (MSb s1 (PRE++dx s1.nv (d.needs.take j),s1.lps)) vj ua bl bc)∧Hid (MTo w8 g va ua wr vj ua)∧Hid (Bx wr g vj ua gd (.cells #[.string sn,.slice a1 L1 c1,.slice a2 L2 c2,.slice a3 L3 c3,.slice a4 L4 c4] 60))∧Hid (Bx wr g vj ua gr (.cells #[.int .i64 0,.int .i64 0,.slice none 0 0,.slice none 0 0] 25))) (fun ix _=>L2 - (intOf ix).toNat)
  case atStart=>exact ⟨0,va,Nat.zero_le _,rfl,Hd (by rw [List.take_zero];show MK _ _ _ (MSb s1 (PRE++[],_)) _ _ _ _;rw [List.append_nil];exact HM.out),HT,HBD,HBR⟩
  case round=>
   obtain ⟨j,vj,hjn,rfl,HMj,HTj,HBDj,HBRj⟩:=hrel
   by_cases hlt:j < L2
   ·have hlt':(j:Int) < (L2:Int):=by omega
    have j0:(0:Int)≤(j:Int):=by omega
    obtain ⟨e,he⟩:∃ e,d.needs[j]?=some e:=⟨_,List.getElem?_eq_getElem (by rw [← HL2.out];exact hlt)⟩
    obtain ⟨gq,rfl,hgq,hes⟩:∃ gq,a2=some ⟨gq,0,none⟩∧(B gq∧gq < w.heap.size)∧EsO w8 (fun b=>B b∧b < w.heap.size) gq 0 d.needs:=by
     obtain ⟨a',cap',e',-,hx⟩:=HPT.out.1;injection e' with e1 _ _
     subst e1;rcases hx with hx | ⟨gq,h1,h2,h3⟩
     ·rw [hx] at he;simp at he
     ·exact ⟨gq,h1,h2,EsAt.eso d.needs 0 0 rfl h3⟩
    obtain ⟨k1,n1,sn1,b1,l1,d1,p1,hev1,hat1⟩:=hes.at5 he;have hat:=hat1.kept HTj.out.only (fun hh=>HKS.out gq hh hgq);have z0:=hat.c0;have z1:=hat.c1;have z2:=hat.c2;have z3:=hat.c3;have z4:=hat.c4;have HEVq:=Hd (EV.kept HTj.out.only HKS.out (fun _ h=>h) e _ hev1);have HSE:=Hd (di he);have HGT:=Hd (tJ s1.nv he);have HSL:=Hd (And.intro (ce he) (bj d.needs (j+1)));have HGN:=Hd (kq s1.nv (d.needs.take j));have HGE:=Hd (gz s1.nv e);have HWE:=Hd (And.intro (jy HK.out.whole.needs he) (kh HK.out.good.needs he));clear he hes hev1 hat1 hat hlt;(go_upto_region 9 with (fail));obtain ⟨w5,q9,o5,hY5,-⟩:=nb wr (.cells #[.int .i64 k1,.int .i64 n1,.string sn1,.slice b1 l1 d1,.int .i64 p1] 95);rw [← q9];clear q9;have x0:w5.cell? ⟨wr.heap.size,0,none⟩=some (.int .i64 k1):=ab 0 hY5;have x1:w5.cell? ⟨wr.heap.size,1,none⟩=some (.int .i64 n1):=ab 1 hY5;have x2:w5.cell? ⟨wr.heap.size,2,none⟩=some (.string sn1):=ab 2 hY5;have x3:w5.cell? ⟨wr.heap.size,3,none⟩=some (.slice b1 l1 d1):=ab 3 hY5;have x4:w5.cell? ⟨wr.heap.size,4,none⟩=some (.int .i64 p1):=ab 4 hY5;have K1:=gP 480 (Nat.le_refl _) e (by have:=HSE.out;have:=HSZ.out;omega) w5 w.heap.size g _ _ ua bl bc _ (fun b=>B b∧b < w.heap.size) (HMj.out.quiet o5) (by have:=HBW.out;have:=HTj.out.only.size;have:=o5.size;omega) (by rw [cA,List.length_append];have:=HSE.out;have:=HSL.out;have:=HGN.out;have:=HPRE.out;have:=HSZ.out;have:=HI0.out;omega) HWE.out.1 HWE.out.2 (HEVq.out.quiet o5) (fun b h=>h.2);have HT5:=Hd (HTj.out.quiet o5);have HBD5:=Hd (HBDj.out.quiet o5);have HBR5:=Hd (HBRj.out.quiet o5);clear o5 hY5 z0 z1 z2 z3 z4;(go_wp2_with fail);refine K1.mono ?_;rintro en w6 ⟨rfl,v6,m6,t6⟩;rw [lw,MSi_b] at m6;dsimp only at m6;have HT6:=Hd (HT5.out.trans t6);have HM6:=Hd m6;have HBD6:=Hd (HBD5.out.call t6);have HBR6:=Hd (HBR5.out.call t6);clear m6 t6 K1 x0 x1 x2 x3 x4;(go_wp2_with fail);refine (eG HM6.out HT6.out HBW.out 15 0 (by dsimp only;rw [List.length_append,List.length_append];have:=HSE.out;have:=HSL.out;have:=HGN.out;have:=HGE.out;have:=HPRE.out;have:=HSZ.out;have:=HI0.out;omega)).mono ?_;rintro en w9 ⟨rfl,v9,m9,t9,q9⟩;dsimp only at m9;rw [List.append_assoc,List.append_assoc,← List.append_assoc (dx _ _),← HGT.out] at m9;have HM9:=Hd m9;have HT9:=Hd t9;have HBD9:=Hd (HBD6.out.call q9);have HBR9:=Hd (HBR6.out.call q9);clear m9 t9 q9;(go_wp2_with fail);refine ⟨⟨j+1,v9,by omega,by simp,HM9,HT9,HBD9,HBR9⟩,?_⟩;simp [intOf];omega
   ·obtain rfl:L2=j:=by omega
    have hm:=HMj.out;rw [HL2.out,List.take_length] at hm;replace HM:=Hd hm;replace HBD:=HBDj;replace HBR:=HBRj;clear hm HMj HBDj HBRj;have hgn:=kq s1.nv d.needs;obtain ⟨nd,hnd2⟩:∃ l,l=PRE++dx s1.nv d.needs:=⟨_,rfl⟩
    have hndl:nd.length≤2*aq d.needs:=by rw [hnd2,hpre,List.nil_append];exact hgn
    rw [← hnd2] at HM;have hnd3:nd=dx s1.nv d.needs:=by rw [hnd2,hpre,List.nil_append]
    have HNDL:=Hd (And.intro hndl hnd3);clear hgn hnd2 hndl hnd3 hpre HPRE HT;generalize wr=wb at HM HTj HBD HBR⊢;have x3:wb.cell? ⟨gd,3,none⟩=some (.slice a3 L3 c3):=ab 3 HBD.out.heap;have hfew:=(cK d.body _ HK.out.whole.body HK.out.plain (xz HFL.out)).2;have KB:=km (tH 480 (Nat.le_refl _)) (by have:=HSZ.out;omega) HM.out HTj.out HBW.out (by have:=HSZ.out;have:=HI0.out;have:=HNDL.out.1;dsimp only;omega) (by rw [HND.out.lps];have:=HSZ.out;simp;omega) HK.out.whole.body HK.out.good.body hfew (SsV.kept HTj.out.only HKS.out (fun _ h=>h) HPT.out.2.1) (fun b h=>h.2);clear hfew;(go_wp2_with fail);refine KB.mono ?_;rintro en wc ⟨rfl,vc,uc,mc,tc,qc⟩;(try dsimp only at mc);rw [HI0.out,Nat.zero_add,HND.out.lps] at mc;obtain ⟨b,hbe⟩:∃ b,b=cB s1.nv d.body nd.length []:=⟨_,rfl⟩
    have hbl2:=cF s1.nv d.body nd.length [];rw [← hbe] at hbl2 mc;have HBB:=Hd hbl2;have HBE:=Hd hbe;replace HM:=Hd mc;replace HBD:=Hd (HBD.out.call qc);replace HBR:=Hd (HBR.out.call qc)
    replace HO8:=Hd (HO8.out.trans tc.only (fun k hk=>by
     simp only [List.mem_cons,List.mem_append,Option.mem_toList] at hk
     exact .inr (MKl.out k (by simp only [List.mem_cons,List.mem_append,Option.mem_toList];exact hk))))
    replace HPT:=Hd (HPT.out.2.2.kept tc.only HKS.out (fun _ h=>h));replace HKS:=Hd (MTo.keeps (w':=wc) (v':=vc) (u':=uc) mc (B:=fun b=>B b∧b < w.heap.size) (fun b h=>h.2));replace HBW:=Hd (show w.heap.size≤wc.heap.size from HO8.out.size);clear mc tc qc KB x3 hbe hbl2 HTj;have HT:=Hd (MTo.refl wc g vc uc);have MKm:=Hd (MK.below HM.out HT.out);have x4:wc.cell? ⟨gd,4,none⟩=some (.slice a4 L4 c4):=ab 4 HBD.out.heap;(go_wp2_with fail);clear x4;have HPRE:=Hd (show (nd++b.1).length≤100000 by rw [List.length_append];have:=HNDL.out.1;have:=HBB.out;have:=HSZ.out;omega);obtain ⟨PRE,hpre⟩:∃ l:List Ins,l=nd++b.1:=⟨_,rfl⟩
    rw [← hpre] at HM HPRE
    go_loopw [42] (fun ix wr=>∃ (j:Nat) (vj:Value),j≤L4∧ix=.int .i64 (j:Int)∧Hid (MK wr w.heap.size g (MSb s1 (PRE++cE s1.nv (d.give.take j),b.2)) vj uc bl bc)∧Hid (MTo wc g vc uc wr vj uc)∧Hid (Bx wr g vj uc gd (.cells #[.string sn,.slice a1 L1 c1,.slice a2 L2 c2,.slice a3 L3 c3,.slice a4 L4 c4] 60))∧Hid (Bx wr g vj uc gr (.cells #[.int .i64 0,.int .i64 0,.slice none 0 0,.slice none 0 0] 25))) (fun ix _=>L4 - (intOf ix).toNat)
    case atStart=>exact ⟨0,vc,Nat.zero_le _,rfl,Hd (by rw [List.take_zero];show MK _ _ _ (MSb s1 (PRE++[],_)) _ _ _ _;rw [List.append_nil];exact HM.out),HT,HBD,HBR⟩
    case round=>
     obtain ⟨j,vj,hjn,rfl,HMj,HTj,HBDj,HBRj⟩:=hrel
     by_cases hlt:j < L4
     ·have hlt':(j:Int) < (L4:Int):=by omega
      have j0:(0:Int)≤(j:Int):=by omega
      obtain ⟨e,he⟩:∃ e,d.give[j]?=some e:=⟨_,List.getElem?_eq_getElem (by rw [← HL4.out];exact hlt)⟩
      obtain ⟨gq,rfl,hgq,hes⟩:∃ gq,a4=some ⟨gq,0,none⟩∧(B gq∧gq < w.heap.size)∧EsO wc (fun b=>B b∧b < w.heap.size) gq 0 d.give:=by
       obtain ⟨a',cap',e',-,hx⟩:=HPT.out;injection e' with e1 _ _
       subst e1;rcases hx with hx | ⟨gq,h1,h2,h3⟩
       ·rw [hx] at he;simp at he
       ·exact ⟨gq,h1,h2,EsAt.eso d.give 0 0 rfl h3⟩
      obtain ⟨k1,n1,sn1,b1,l1,d1,p1,hev1,hat1⟩:=hes.at5 he;have hat:=hat1.kept HTj.out.only (fun hh=>HKS.out gq hh hgq);have z0:=hat.c0;have z1:=hat.c1;have z2:=hat.c2;have z3:=hat.c3;have z4:=hat.c4;have HEVq:=Hd (EV.kept HTj.out.only HKS.out (fun _ h=>h) e _ hev1);have HSE:=Hd (di he);have HGT:=Hd (tK s1.nv he);have HSL:=Hd (And.intro (ce he) (bj d.give (j+1)));have HGN:=Hd (oH s1.nv (d.give.take j));have HGE:=Hd (gz s1.nv e);have HWE:=Hd (And.intro (jy HK.out.whole.give he) (kh HK.out.good.give he));clear he hes hev1 hat1 hat hlt;(go_upto_region 16 with (fail));obtain ⟨w5,q9,o5,hY5,-⟩:=nb wr (.cells #[.int .i64 k1,.int .i64 n1,.string sn1,.slice b1 l1 d1,.int .i64 p1] 95);rw [← q9];clear q9;have x0:w5.cell? ⟨wr.heap.size,0,none⟩=some (.int .i64 k1):=ab 0 hY5;have x1:w5.cell? ⟨wr.heap.size,1,none⟩=some (.int .i64 n1):=ab 1 hY5;have x2:w5.cell? ⟨wr.heap.size,2,none⟩=some (.string sn1):=ab 2 hY5;have x3:w5.cell? ⟨wr.heap.size,3,none⟩=some (.slice b1 l1 d1):=ab 3 hY5;have x4:w5.cell? ⟨wr.heap.size,4,none⟩=some (.int .i64 p1):=ab 4 hY5;have K1:=gP 480 (Nat.le_refl _) e (by have:=HSE.out;have:=HSZ.out;omega) w5 w.heap.size g _ _ uc bl bc _ (fun b=>B b∧b < w.heap.size) (HMj.out.quiet o5) (by have:=HBW.out;have:=HTj.out.only.size;have:=o5.size;omega) (by rw [cA,List.length_append];have:=HSE.out;have:=HSL.out;have:=HGN.out;have:=HPRE.out;have:=HSZ.out;have:=HI0.out;omega) HWE.out.1 HWE.out.2 (HEVq.out.quiet o5) (fun b h=>h.2);have HT5:=Hd (HTj.out.quiet o5);have HBD5:=Hd (HBDj.out.quiet o5);have HBR5:=Hd (HBRj.out.quiet o5);clear o5 hY5 z0 z1 z2 z3 z4;(go_wp2_with fail);refine K1.mono ?_;rintro en w6 ⟨rfl,v6,m6,t6⟩;rw [lw,MSi_b] at m6;dsimp only at m6;have HT6:=Hd (HT5.out.trans t6);have HM6:=Hd m6;have HBD6:=Hd (HBD5.out.call t6);have HBR6:=Hd (HBR5.out.call t6);clear m6 t6 K1 x0 x1 x2 x3 x4;(go_wp2_with fail);refine (eG HM6.out HT6.out HBW.out 16 0 (by dsimp only;rw [List.length_append,List.length_append];have:=HSE.out;have:=HSL.out;have:=HGN.out;have:=HGE.out;have:=HPRE.out;have:=HSZ.out;have:=HI0.out;omega)).mono ?_;rintro en w9 ⟨rfl,v9,m9,t9,q9⟩;dsimp only at m9;rw [List.append_assoc,List.append_assoc,← List.append_assoc (cE _ _),← HGT.out] at m9;have HM9:=Hd m9;have HT9:=Hd t9;have HBD9:=Hd (HBD6.out.call q9);have HBR9:=Hd (HBR6.out.call q9);clear m9 t9 q9;(go_wp2_with fail);refine ⟨⟨j+1,v9,by omega,by simp,HM9,HT9,HBD9,HBR9⟩,?_⟩;simp [intOf];omega
     ·obtain rfl:L4=j:=by omega
      have hm:=HMj.out;rw [HL4.out,List.take_length] at hm;replace HM:=Hd hm;replace HBD:=HBDj;replace HBR:=HBRj;clear hm HMj HBDj HBRj HT;generalize wr=wd at HM HTj HBD HBR⊢;obtain ⟨va2,ca2,rfl⟩:=HM.out.ins.shape;obtain ⟨ua2,cu2,rfl⟩:=HM.out.lps.shape;obtain ⟨nI,hnI⟩:∃ n,n=(MSb s1 (PRE++cE s1.nv d.give,b.2)).ins.length:=⟨_,rfl⟩
      obtain ⟨nL,hnL⟩:∃ n,n=(MSb s1 (PRE++cE s1.nv d.give,b.2)).lps.length:=⟨_,rfl⟩
      rw [← hnI,← hnL] at HM HBD HBR HTj;rw [← hnL] at MKm;obtain ⟨P1,hP1⟩:∃ x,x=s1.pa:=⟨_,rfl⟩
      obtain ⟨P2,hP2⟩:∃ x,x=s1.lo:=⟨_,rfl⟩
      have m0:wd.cell? ⟨g,0,none⟩=some (.int .i64 P1):=by rw [hP1];exact ab 0 HM.out.row
      have m1:wd.cell? ⟨g,1,none⟩=some (.int .i64 P2):=by rw [hP2];exact ab 1 HM.out.row
      have m2:=HM.out.c2;have m3:=HM.out.c3;have z0:wd.cell? ⟨gr,0,none⟩=some (.int .i64 0):=ab 0 HBR.out.heap;have z1:wd.cell? ⟨gr,1,none⟩=some (.int .i64 0):=ab 1 HBR.out.heap;have z2:wd.cell? ⟨gr,2,none⟩=some (.slice none 0 0):=ab 2 HBR.out.heap;have z3:wd.cell? ⟨gr,3,none⟩=some (.slice none 0 0):=ab 3 HBR.out.heap;have f0:=ae 0 HBR.out.heap;have f1:=ae 1 HBR.out.heap;have f2:=ae 2 HBR.out.heap;have f3:=ae 3 HBR.out.heap;have HPP:=Hd (And.intro hP1 hP2);clear hP1 hP2 hnI hnL;(go_wp2_with fail);(try simp only [Exit.inBlock,Exit.then]);refine bodyPost_ret (kr _ _ gr _ _ _ _ .nilIface rfl rfl (ci HBR.out.heap _ _ _ _)) rfl ?_;have oz:=kn wd gr (.int .i64 P1) (.int .i64 P2) (.slice va2 nI ca2) (.slice ua2 nL cu2);have hgc:=tI HND.out HK.out.whole HK.out.plain HFL.out;have hge:genC s1.nv s1.lo d=⟨d.params.length,s1.lo,PRE++cE s1.nv d.give,b.2⟩:=by
       unfold genC;dsimp only;rw [← HNDL.out.2,← HBE.out,hpre]
      rw [HR.out,← hgc,hge];have o9:=HO8.out.trans HTj.out.only (fun k hk=>.inr (MKm.out k hk));refine ⟨.slice va2 nI ca2,.slice ua2 nL cu2,?_,?_,?_,o9.trans oz (fun k hk=>.inr (by rw [List.mem_singleton.1 hk];have:=HGD.out;omega))⟩
      ·show Ending.returned _=Ending.returned _;rw [HPP.out.1,HPP.out.2,HND.out.pa];rfl
      ·have hi:=HM.out.ins;have e:(MSb s1 (PRE++cE s1.nv d.give,b.2)).ins=PRE++cE s1.nv d.give:=by unfold MSb;dsimp only;rw [HND.out.ins,List.nil_append]
       rw [e] at hi;exact hi.kept oz (fun k hk=>by rw [List.mem_singleton.1 hk];exact HBR.out.nv)
      ·exact HM.out.lps.kept oz (fun k hk=>by rw [List.mem_singleton.1 hk];exact HBR.out.nu)
end Go.Proofs.YtcebchffcmpfeaaGreat
