import Derived.Test.YtcebchffcmpfeaaGreatXet
namespace Go.Proofs.YtcebchffcmpfeaaGreat
set_option linter.unusedVariables false
set_option linter.unusedSimpArgs false
set_option maxRecDepth 100000
set_option maxHeartbeats 16000000
open Go.RowKit Go.Maps
abbrev Imv:=Int×Int
def rG:RowT Imv:=⟨135,164,2,fun x=>[.int .i64 x.1,.int .i64 x.2],.agg #[.int .i64 0,.int .i64 0],16,Tryz.underlying164,by kernel_rfl,rfl,by omega,by omega,fun _=>rfl,fun x u hu=>by simp at hu;rcases hu with rfl | rfl<;>rfl⟩
def mx:List Int→List Imv→Option (List Int)
 | c,[]=>some c
 | c,p :: l=>if 0≤p.1∧p.1 < 60 then mx (c.set p.1.toNat p.2) l else none
def SetPv (n:Int) (c:List Int) (l:List Imv) (w:World) (e:Ending) (w':World):Prop:=
 Only [] w w'∧(∀ d,mx c l=some d→e=.returned (.tuple #[.agg (ivA (n :: d)),.nilIface]))∧(mx c l=none→e=.returned (.tuple #[.agg (ivA (0 :: blankP)),err 1]))
theorem Set_anyV (n:Int) (c:List Int) {a:Option Addr} {L cap:Nat} (l:List Imv) (w:World) (hc:c.length=60) (hv:RV rG w (.slice a L cap) l) (hl:L≤1000) (hn:∀ p∈l,n64 p.1) :
    Calls Tryz.prog 107 #[.agg (ivA (n :: c)),.slice a L cap] w (SetPv n c l w):=by
  have hL:=hv.len_;have HV:=Hd hv;have HL:=Hd hL;have HN:=Hd hn;clear hv hL hn;have T1:=trivial;have T2:=trivial
  go_enter Tryz.func107,Tryz.ntmps107
  go_wp2_with (first
    | (clear T1
       refine bw rfl _ rfl (n :: c) (by rfl) ?_;intro w1 g1 hb1 hg1 ho1;have HB1:=Hd hb1;have HG1:=Hd hg1;have HO1:=Hd ho1
       clear hb1 hg1 ho1)
    | (clear T2
       refine aJ rfl rfl ?_;intro w2 g2 hb2 hg2 ho2;have HO2:=Hd (HO1.out.trans ho2 (by simp));have HB1':=Hd (HB1.out.kept ho2 (by simp));have hne:g1≠g2:=by have:=HB1.out.lt;omega
       have HG2:=Hd (Nat.le_trans HO1.out.size hg2);have HB2:=Hd hb2
       clear hb2 hg2 ho2 HB1 HO1))
  go_loopw [7,10] (fun _ i wr=>∃ (k:Nat) (d:List Int),k≤L∧i=.int .i64 k∧d.length=60∧mx c l=mx d (l.drop k)∧PB wr g1 33 (n :: d)∧PB wr g2 33 (List.replicate 61 0)∧Only [] w wr) (fun _ i _=>L - (intOf i).toNat)
  case atStart=>exact ⟨0,c,by omega,rfl,hc,rfl,HB1'.out,HB2.out,HO2.out⟩
  case round=>
    obtain ⟨k,d,hk,rfl,hd,bS,hb,hb',ho⟩:=hrel
    by_cases hlt:k < L
    · have hkl:l[k]?=some (l[k]'(by rw [← HL.out];exact hlt)):=List.getElem?_eq_getElem _
      obtain ⟨b,off,e1,hcc⟩:=(HV.out.quiet ho).at_ hkl;subst e1;have hdrop:l.drop k=l[k]'(by rw [← HL.out];exact hlt) :: l.drop (k+1):=List.drop_eq_getElem_cons _;rw [hdrop] at bS;obtain ⟨p,hp⟩:∃ p,p=l[k]'(by rw [← HL.out];exact hlt):=⟨_,rfl⟩
      have hin:=HN.out p (by rw [hp];exact List.getElem_mem _);rw [← hp] at hcc bS;have hc1:=hcc 0 _ rfl;have hc2:=hcc 1 _ rfl;obtain ⟨x,y⟩:=p;simp only [rG,Nat.add_zero] at hc1 hc2 bS hin;unfold n64 at hin;have hi0:=hin;have HS:=Hd bS;have HB:=Hd hb;have HB':=Hd hb';have HO:=Hd ho;clear bS hb hb' ho hkl hdrop hp HB1' HB2 HO2 hcc hin;(go_wp2_with fail);refine (ij x _ hi0.1 hi0.2).mono ?_;rintro e w3 ⟨rfl,rfl⟩;have q0:=ab 0 (ag wr (.cells #[.int .i64 x,.int .i64 y] 135));have q1:=ab 1 (ag wr (.cells #[.int .i64 x,.int .i64 y] 135));have q2:Only [] wr (wr.alloc (.cells #[.int .i64 x,.int .i64 y] 135)):=(Only.refl [] wr).alloc _;obtain ⟨w4,hw4⟩:∃ w4,w4=wr.alloc (.cells #[.int .i64 x,.int .i64 y] 135):=⟨_,rfl⟩
      rw [← hw4] at q0 q1 q2⊢;have q0':w4.cell? ⟨wr.heap.size,0,none⟩=some (.int .i64 x):=q0;have q1':w4.cell? ⟨wr.heap.size,1,none⟩=some (.int .i64 y):=q1;have HB4:=Hd (HB.out.kept q2 (by simp));have HB4':=Hd (HB'.out.kept q2 (by simp));have HO4:=Hd (HO.out.trans q2 (by simp));clear q0 q1 q2 hw4 HB HB' HO hc1 hc2;have HG1':w.heap.size≤g1:=HG1.out
      by_cases hin:0≤x∧x < 60
      · have hdec:decide (0≤x∧x < 60)=true:=by simp [hin]
        rw [hdec];have hs2:mx c l=mx (d.set x.toNat y) (l.drop (k+1)):=by
          rw [HS.out,mx];simp only [if_pos hin]
        have HS2:=Hd hs2;obtain ⟨i,rfl⟩:∃ i:Nat,x=(i:Int):=⟨x.toNat,by omega⟩
        have hi60:i < 60:=by omega
        have hcx:∃ v,w4.cell? ⟨g1,1+i,none⟩=some v:=⟨_,HB4.out.cell (z:=d[i]'(by omega)) (by rw [Nat.add_comm,List.getElem?_cons_succ,List.getElem?_eq_getElem])⟩
        obtain ⟨v2,hcx⟩:=hcx;have hfx:w4.frozen? ⟨g1,1+i,none⟩=false:=HB4.out.free _;have hb5:PB (w4.setCell ⟨g1,1+i,none⟩ (.int .i64 y)) g1 33 (n :: d.set i y):=by
          have e:(n :: d).set (1+i) y=n :: d.set i y:=by rw [Nat.add_comm,List.set_cons_succ]
          rw [← e];exact HB4.out.set (1+i) y
        have ho5:Only [] w (w4.setCell ⟨g1,1+i,none⟩ (.int .i64 y)):=HO4.out.setCell (Or.inr HG1') _;have hb6:PB (w4.setCell ⟨g1,1+i,none⟩ (.int .i64 y)) g2 33 (List.replicate 61 0):=HB4'.out.kept ((Only.refl [g1] w4).setCell (.inl (by simp)) _) (by simp;omega);have HB5:=Hd hb5;have HB6:=Hd hb6;have HO5:=Hd ho5;clear hb5 hb6 ho5 hs2 hdec hin HS HB4 HB4' HO4;(go_wp2_with fail);go_roundw
        case rel=>exact ⟨k+1,d.set i y,by omega,by go_num,by simpa using hd,HS2.out,HB5.out,HB6.out,HO5.out⟩
        case measure=>simp [intOf];omega
      · have hdec:decide (0≤x∧x < 60)=false:=by simp only [decide_eq_false_iff_not];exact hin
        rw [hdec];have hs2:mx c l=none:=by
          rw [HS.out,mx];simp only [if_neg hin]
        have HS2:=Hd hs2;clear hs2 hdec hin HS
        go_wp2_with (first
          | (refine cr rfl [] rfl (0 :: blankP) cf ?_)
          | (refine aw rfl _ _ rfl g2 (0 :: blankP) (by rfl) (by rfl) (by rfl) _ HB4'.out (by rfl) ?_
             intro w5 hb5 ho5;have HB5:=Hd hb5;have HO5:=Hd (HO4.out.trans ho5 (by simp;exact HG2.out))
             clear hb5 ho5))
        refine bodyPost_ret (gh rfl _ _ g2 _ _ (by rfl) (by rfl) HB5.out (by rfl)) rfl ⟨HO5.out,?_,fun _=>rfl⟩;intro d' h';rw [HS2.out] at h';simp at h'
    · obtain rfl:k=L:=by omega
      rw [List.drop_of_length_le (by rw [HL.out];exact Nat.le_refl _)] at bS;have HS:=Hd bS;have HO:=Hd ho;clear bS ho HO2
      go_wp2_with (first
        | (refine aF rfl _ rfl g1 (by rfl) _ hb (by simp [hd]) ?_)
        | (refine aw rfl _ _ rfl g2 (n :: d) (by rfl) (by rfl) (by simp [hd]) _ hb' (by rfl) ?_
           intro w5 hb5 ho5;have HB5:=Hd hb5;have HO5:=Hd (HO.out.trans ho5 (by simp;exact HG2.out))
           clear hb5 ho5))
      refine bodyPost_ret (gh rfl _ _ g2 _ _ (by rfl) (by rfl) HB5.out (by simp [hd])) rfl ⟨HO5.out,?_,?_⟩
      · intro d' h'
        rw [HS.out,mx] at h';cases h';rfl
      · intro h'
        rw [HS.out,mx] at h';simp at h'
section
variable {w0 w w':World} {g:Nat} {q:Int} {c:Cd} {a1 a2:Option Addr} {n1 c1 n2 c2:Nat} {s:Mc} {v:Value}
theorem nW (h:MV w0 w g q c a1 n1 c1 a2 n2 c2 s v) (m:List Int) (hm:m.length=60):(storeVar 33 ⟨g,0,none⟩ (.agg (ivA (q :: m)))).run Tryz.prog w=.ok () (w.setRow g (dy q m [.int .i64 c.params,.int .i64 c.locals,.slice a1 n1 c1,.slice a2 n2 c2] s.lo [v,.int .i64 (s.at_:Int),.int .i64 (s.n:Int),.int .i64 s.gv]).toArray):=by
 have hm1:(q :: m).length=61:=by rw [List.length_cons,hm]
 have e1:(iv (q :: m)).length=61:=by rw [aB,hm1]
 have e2:(iv (q :: s.pg)).length=61:=by rw [aB,List.length_cons,h.len]
 have:=run_storeCells_at Tryz.prog g 0 70 (iv (q :: m)) 0 _ w h.row (by
  rw [e1];unfold dy;simp only [List.size_toArray,List.length_append,e2];omega) (fun u hu=>by
  obtain ⟨z,-,rfl⟩:=List.mem_map.1 hu
  rfl)
 rw [Nat.add_zero,mRow_sp h.len (q :: m) hm1] at this;have hs:=bN (q :: m) hm1;cases hq:Tryz.prog.info? 33 with
 | none=>simp [hq] at hs
 | some i=>
  have hi:i.size=61:=by simp [hq,bH,hm] at hs;omega
  have hc:(ivA (q :: m)).toList=iv (q :: m):=by simp [ivA]
  have hz:(ivA (q :: m)).size=61:=by rw [bH,hm1]
  simp [storeVar,sizeOf,typeInfo,hq,Value.cells,hi,hz,hc,this,dy]
theorem MV.paged (h:MV w0 w g q c a1 n1 c1 a2 n2 c2 s v) {m:List Int} (hm:CW m):MV w0 (w.setRow g (dy q m [.int .i64 c.params,.int .i64 c.locals,.slice a1 n1 c1,.slice a2 n2 c2] s.lo [v,.int .i64 (s.at_:Int),.int .i64 (s.n:Int),.int .i64 s.gv]).toArray) g q c a1 n1 c1 a2 n2 c2 {s with pg:=m } v∧
  VTo w g v (w.setRow g (dy q m [.int .i64 c.params,.int .i64 c.locals,.slice a1 n1 c1,.slice a2 n2 c2] s.lo [v,.int .i64 (s.at_:Int),.int .i64 (s.n:Int),.int .i64 s.gv]).toArray):=by
 have hr:=iX (dy q m [.int .i64 c.params,.int .i64 c.locals,.slice a1 n1 c1,.slice a2 n2 c2] s.lo [v,.int .i64 (s.at_:Int),.int .i64 (s.n:Int),.int .i64 s.gv]).toArray h.row;have ho:Only [g] w (w.setRow g (dy q m [.int .i64 c.params,.int .i64 c.locals,.slice a1 n1 c1,.slice a2 n2 c2] s.lo [v,.int .i64 (s.at_:Int),.int .i64 (s.n:Int),.int .i64 s.gv]).toArray):=(Only.refl [g] w).setRow (.inl (by simp)) _;have hv:VTo w g v _:=ho.mono (by simp);exact ⟨⟨hr,h.st.kept ho (by intro k hk;rw [List.mem_singleton.1 hk];exact h.ne),h.lo,hm,h.since hv,h.new,h.code⟩,hv⟩
theorem jZ {ops:Array Oper} {rest:List Oper} {o:Oper} {a:Act} {Q:Exit→Act→World→Prop} (hgd:o.guard=none) (x y:Operand) (ho:o.op=.store 33 x y) (hx:a.eval x=.pointer (some ⟨g,0,none⟩)) (m:List Int) (hy:a.eval y=.agg (ivA (q :: m)))
  (h:MV w0 w g q c a1 n1 c1 a2 n2 c2 s v) (hm:CW m) (hK:∀ w',MV w0 w' g q c a1 n1 c1 a2 n2 c2 {s with pg:=m } v→VTo w g v w'→wpList Tryz.prog ops Q rest (a.put o.dst undef) w'):wpList Tryz.prog ops Q (o :: rest) a w:=by
 obtain ⟨r1,r2⟩:=h.paged hm;refine wpList_plain hgd fun _ hk=>?_;have hr:=nW h m hm.len;unfold Oper.wp execOp;simp only [ho,hx,hy,Instr.storeAt,Instr.sureAddr,Sem.run_bind,Sem.run_pure,Result.andThen_ok,hr];exact hk _ _ (hK _ r1 r2)
def pgV (pg:List Int) (l:List Imv):List Int:=(mx pg l).getD pg
theorem ja (h:MV w0 w g q c a1 n1 c1 a2 n2 c2 s v) {a:Option Addr} {L cap:Nat} (l:List Imv) (hv:RV rG w (.slice a L cap) l) (hl:L≤1000) (hn:∀ p∈l,n64 p.1) (hp:CW (pgV s.pg l)) :
    Calls Tryz.prog 74 #[.pointer (some ⟨g,0,none⟩),.slice a L cap] w fun e w'=>e=.returned (.tuple #[])∧MV w0 w' g q c a1 n1 c1 a2 n2 c2 {s with pg:=pgV s.pg l } v∧VTo w g v w':=by
  have hra:w.rangeAt g 0 (iv (q :: s.pg)):=by
    intro j u hj;have hlt:=(List.getElem?_eq_some_iff.1 hj).1;rw [aB,List.length_cons,h.len] at hlt;rw [Nat.zero_add,h.cell j,qs h.len (by omega)];exact hj
  have hsz:(Tryz.prog.info? 33).map (·.size)=some (iv (q :: s.pg)).length:=by
    have:=bN (q :: s.pg) (by rw [List.length_cons,h.len])
    rwa [bH,← aB] at this
  have KS:=Set_anyV q s.pg l w h.len hv hl hn;have HH:=Hd h;have HP:=Hd hp;clear h hv hp hn
  go_enter Tryz.func74,Tryz.ntmps74
  go_wp2_with (refine Go.wpList_load_mid rfl 33 (.tmp 9) rfl g 0 (by rfl) (iv (q :: s.pg)) _ hra Tryz.underlying33 rfl hsz ?_)
  refine KS.mono ?_;rintro e w2 ⟨o2,hyes,hno⟩;have HM2:=Hd (HH.out.quiet o2);have HO2:=Hd o2;clear hra hsz o2 KS;cases hs:mx s.pg l with
  | none=>
    obtain rfl:=hno hs;have HE:=Hd (show pgV s.pg l=s.pg by unfold pgV;rw [hs];rfl);have T1:=trivial;have T2:=trivial;clear hs hyes hno
    go_wp2_with (first
      | (clear T1
         refine aJ rfl rfl ?_;intro w3 g3 hb3 hg3 ho3;have HB3:=Hd hb3;have HO3:=Hd ho3;have HG3:=Hd hg3
         clear hb3 hg3 ho3)
      | (clear T2
         refine aw rfl _ _ rfl g3 (0 :: blankP) (by rfl) (by rfl) (by rfl) _ HB3.out (by rfl) ?_;intro w4 hb4 ho4;have HO4:=Hd (HO3.out.trans ho4 (by simp;exact HG3.out))
         clear hb4 ho4))
    (first | go_end0 | ((try simp only [Exit.inBlock,Exit.then]);refine bodyPost_ret (results_none rfl _ _ _) rfl ?_));exact ⟨rfl,by rw [HE.out];exact HM2.out.quiet HO4.out,VTo.after HO2.out (VTo.on (VTo.refl _ _ _) HO4.out)⟩
  | some d=>
    obtain rfl:=hyes d hs;have hE:pgV s.pg l=d:=by unfold pgV;rw [hs];rfl
    have hd:CW d:=by rw [← hE];exact HP.out
    have hdl:=hd.len;have HE:=Hd hE;have HD:=Hd hd;have T1:=trivial;have T2:=trivial;have T3:=trivial;clear hs hyes hno hE hd
    go_wp2_with (first
      | (clear T1
         refine aJ rfl rfl ?_;intro w3 g3 hb3 hg3 ho3;have HB3:=Hd hb3;have HO3:=Hd ho3;have HG3:=Hd hg3
         clear hb3 hg3 ho3)
      | (clear T2
         refine aw rfl _ _ rfl g3 (q :: d) (by rfl) (by rfl) (by simp [hdl]) _ HB3.out (by rfl) ?_;intro w4 hb4 ho4;have HO4:=Hd (HO3.out.trans ho4 (by simp;exact HG3.out));have HB4:=Hd hb4
         clear hb4 ho4)
      | (refine aF rfl _ rfl g3 (by rfl) _ HB4.out (by simp [hdl]) ?_)
      | (clear T3
         refine jZ rfl _ _ rfl (by rfl) d (by rfl) (HM2.out.quiet HO4.out) HD.out ?_;intro w5 hm5 hv5;have HM5:=Hd hm5;have HV5:=Hd hv5
         clear hm5 hv5))
    (first | go_end0 | ((try simp only [Exit.inBlock,Exit.then]);refine bodyPost_ret (results_none rfl _ _ _) rfl ?_));exact ⟨rfl,by rw [HE.out];exact HM5.out,VTo.after (HO2.out.trans HO4.out (by simp)) HV5.out⟩
theorem setV_one (c:List Int) (i z:Int):pgV c [(i,z)]=if inC i then c.set i.toNat z else c:=by
 unfold pgV mx mx
 by_cases h:0≤i∧i < 60
 ·rw [if_pos h,if_pos h];rfl
 ·rw [if_neg h,if_neg h];rfl
theorem setV_two (c:List Int) (i j y z:Int):pgV c [(i,y),(j,z)]=if inC i∧inC j then (c.set i.toNat y).set j.toNat z else c:=by
 unfold pgV mx mx mx;dsimp only
 by_cases h:0≤i∧i < 60
 ·rw [if_pos h]
  by_cases h2:0≤j∧j < 60
  ·rw [if_pos h2,if_pos ⟨h,h2⟩];rfl
  ·rw [if_neg h2,if_neg (fun e=>h2 e.2)];rfl
 ·rw [if_neg h,if_neg (fun e=>h e.1)];rfl
def chV (k:Int) (pg:List Int) (i z:Int):Int:=if k=6 then wrap64 (gU pg i+z) else if k=7 then wrap64 (gU pg i - z) else z
theorem fI (h:MV w0 w g q c a1 n1 c1 a2 n2 c2 s v) (k i z:Int) (hi:n64 i) (hp:CW (pgV s.pg [(i,chV k s.pg i z)])) :
  Calls Tryz.prog 73 #[.pointer (some ⟨g,0,none⟩),.int .i64 k,.int .i64 i,.int .i64 z] w fun e w'=>e=.returned (.tuple #[])∧MV w0 w' g q c a1 n1 c1 a2 n2 c2 {s with pg:=pgV s.pg [(i,chV k s.pg i z)] } v∧VTo w g v w':=by
 have KC:=gI h i hi;obtain ⟨G,hG⟩:∃ G,G=gU s.pg i:=⟨_,rfl⟩
 obtain ⟨Z,hZ⟩:∃ Z,Z=chV k s.pg i z:=⟨_,rfl⟩
 rw [← hG] at KC;rw [← hZ] at hp⊢;have HZ:=Hd (show Z=if k=6 then wrap64 (G+z) else if k=7 then wrap64 (G - z) else z by rw [hZ,hG];rfl);have HH:=Hd h;have HI:=Hd hi;have HP:=Hd hp;clear h hi hp hG hZ;have hs:k=6∨k=7∨(k≠6∧k≠7):=by omega
 rcases hs with rfl | rfl | ⟨e1,e2⟩
 ·have HZE:=Hd (show Z=wrap64 (G+z) by rw [HZ.out,if_pos rfl])
  go_enter Tryz.func73,Tryz.ntmps73
  go_wp2_with fail
  refine KC.mono ?_;rintro e w2 ⟨rfl,o2⟩;have HO:=Hd o2;have HM:=Hd (HH.out.quiet o2);clear KC o2;go_wp2_with fail
  obtain ⟨w3,q9,o3,hB,-⟩:=nb w2 (.cells #[.int .i64 i,.int .i64 (wrap64 (G+z))] 135);rw [← q9];clear q9;refine (ja (HM.out.quiet o3) [(i,(wrap64 (G+z)))] (dz _ _ _ (fun j y hj=>by rw [ab j hB];simpa [rG] using hj)) (by omega) (by intro p hp;rw [List.mem_singleton.1 hp];exact HI.out) (by rw [← HZE.out];exact HP.out)).mono ?_;rintro e w4 ⟨rfl,hm,hv⟩;have HM4:=Hd hm;have HV4:=Hd (VTo.after (HO.out.trans o3 (by simp)) hv);clear hm hv o3 hB;go_wp2_with fail
  first | go_end0 | ((try simp only [Exit.inBlock,Exit.then]);refine bodyPost_ret (results_none rfl _ _ _) rfl ?_)
  exact ⟨rfl,by rw [HZE.out];exact HM4.out,HV4.out⟩
 ·have HZE:=Hd (show Z=wrap64 (G - z) by rw [HZ.out,if_neg (by decide),if_pos rfl])
  go_enter Tryz.func73,Tryz.ntmps73
  go_wp2_with fail
  refine KC.mono ?_;rintro e w2 ⟨rfl,o2⟩;have HO:=Hd o2;have HM:=Hd (HH.out.quiet o2);clear KC o2;go_wp2_with fail
  obtain ⟨w3,q9,o3,hB,-⟩:=nb w2 (.cells #[.int .i64 i,.int .i64 (wrap64 (G - z))] 135);rw [← q9];clear q9;refine (ja (HM.out.quiet o3) [(i,(wrap64 (G - z)))] (dz _ _ _ (fun j y hj=>by rw [ab j hB];simpa [rG] using hj)) (by omega) (by intro p hp;rw [List.mem_singleton.1 hp];exact HI.out) (by rw [← HZE.out];exact HP.out)).mono ?_;rintro e w4 ⟨rfl,hm,hv⟩;have HM4:=Hd hm;have HV4:=Hd (VTo.after (HO.out.trans o3 (by simp)) hv);clear hm hv o3 hB;go_wp2_with fail
  first | go_end0 | ((try simp only [Exit.inBlock,Exit.then]);refine bodyPost_ret (results_none rfl _ _ _) rfl ?_)
  exact ⟨rfl,by rw [HZE.out];exact HM4.out,HV4.out⟩
 ·have HZE:=Hd (show Z=z by rw [HZ.out,if_neg e1,if_neg e2]);have HO:=Hd (Only.refl [] w);have HM:=HH;clear KC
  go_enter Tryz.func73,Tryz.ntmps73
  go_wp2_with fail
  obtain ⟨w3,q9,o3,hB,-⟩:=nb w (.cells #[.int .i64 i,.int .i64 z] 135);rw [← q9];clear q9;refine (ja (HM.out.quiet o3) [(i,z)] (dz _ _ _ (fun j y hj=>by rw [ab j hB];simpa [rG] using hj)) (by omega) (by intro p hp;rw [List.mem_singleton.1 hp];exact HI.out) (by rw [← HZE.out];exact HP.out)).mono ?_;rintro e w4 ⟨rfl,hm,hv⟩;have HM4:=Hd hm;have HV4:=Hd (VTo.after (HO.out.trans o3 (by simp)) hv);clear hm hv o3 hB;go_wp2_with fail
  first | go_end0 | ((try simp only [Exit.inBlock,Exit.then]);refine bodyPost_ret (results_none rfl _ _ _) rfl ?_)
  exact ⟨rfl,by rw [HZE.out];exact HM4.out,HV4.out⟩
end
end Go.Proofs.YtcebchffcmpfeaaGreat
