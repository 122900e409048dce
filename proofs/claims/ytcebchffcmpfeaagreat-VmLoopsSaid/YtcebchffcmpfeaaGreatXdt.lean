import Derived.Test.YtcebchffcmpfeaaGreatXat
import Derived.Test.YtcebchffcmpfeaaGreatXct
namespace Go.Proofs.YtcebchffcmpfeaaGreat
set_option linter.unusedVariables false
set_option linter.unusedSimpArgs false
set_option maxRecDepth 100000
set_option maxHeartbeats 16000000
open Go.RowKit Go.Maps
structure HtM (w:World) (gv gr:Nat) (hs:List Int):Prop where
 v:w.heap[gv]?=some (.cells #[.slice (some ⟨gr,0,none⟩) hs.length hs.length] 26 (0,0))
 r:PB w gr 3 hs
section
variable {w w':World} {gv gr:Nat} {hs:List Int}
theorem HtM.ne (h:HtM w gv gr hs):gv≠gr:=by
 intro e;have h1:=h.v;have h2:w.heap[gr]?=_:=h.r;rw [e,h2] at h1;simp at h1
theorem HtM.quiet (h:HtM w gv gr hs) (ho:Only [] w w'):HtM w' gv gr hs:=⟨ho.heap h.v (by simp),h.r.kept ho (by simp)⟩
theorem HtM.set (h:HtM w gv gr hs) (i:Nat) (z:Int):HtM (w.setCell ⟨gr,i,none⟩ (.int .i64 z)) gv gr (hs.set i z):=by
 have ho:Only [gr] w (w.setCell ⟨gr,i,none⟩ (.int .i64 z)):=oc;refine ⟨?_,h.r.set i z⟩;rw [List.length_set];exact ho.heap h.v (by simpa using h.ne)
theorem HtM.cell (h:HtM w gv gr hs) {i:Nat} (hi:i < hs.length):w.cell? ⟨gr,i,none⟩=some (.int .i64 (hs.getD i 0)):=by
 refine h.r.cell ?_;rw [List.getD_eq_getElem?_getD,List.getElem?_eq_getElem hi];rfl
end
theorem eZ {w:World} {gv gr:Nat} {hs:List Int} (h:HtM w gv gr hs) (hl:hs.length≤65537) (a:Nat) (ha:a < hs.length) (z:Int) :
  Calls Tryz.prog 83 #[.int .i64 (a:Int),.int .i64 z,.pointer (some ⟨gv,0,none⟩)] w fun e w'=>e=.returned (.bool (fL hs a z))∧HtM w' gv gr (bS hs a z)∧Only [gr] w w':=by
 obtain ⟨R,hR⟩:∃ R,R=fL hs a z:=⟨_,rfl⟩
 obtain ⟨X,hX⟩:∃ X,X=hs.getD a 0:=⟨_,rfl⟩
 obtain ⟨n,hn⟩:∃ n,n=hs.length:=⟨_,rfl⟩
 have hc:=h.cell ha;have hv:w.cell? ⟨gv,0,none⟩=some (.slice (some ⟨gr,0,none⟩) n n):=by rw [hn];exact ab 0 h.v
 rw [← hX] at hc;rw [← hR];have a0:(0:Int)≤(a:Int):=by omega
 have an:(a:Int) < (n:Int):=by omega
 have hne:=h.ne;have hf:w.frozen? ⟨gr,a,none⟩=false:=h.r.free a
 by_cases hx:X < 0
 ·have e1:bS hs a z=hs.set a z:=by unfold bS;rw [if_pos (by omega)]
  have e2:R=true:=by rw [hR];unfold fL;rw [e1,dr,if_pos ⟨rfl,ha⟩];simp
  have hS:=h.set a z;have oS:Only [gr] w (w.setCell ⟨gr,a,none⟩ (.int .i64 z)):=oc;have HS:=Hd hS;have hv2:(w.setCell ⟨gr,a,none⟩ (.int .i64 z)).cell? ⟨gv,0,none⟩=some (.slice (some ⟨gr,0,none⟩) n n):=ac oS hv (by simpa using hne);have hc2:(w.setCell ⟨gr,a,none⟩ (.int .i64 z)).cell? ⟨gr,a,none⟩=some (.int .i64 z):=by
   have:=hS.cell (i:=a) (by rw [List.length_set];exact ha);rw [dr,if_pos ⟨rfl,ha⟩] at this;exact this
  have HE:=Hd (And.intro e1 (And.intro e2 oS));clear hS hR hX hn e1 e2 h oS
  go_enter Tryz.func83,Tryz.ntmps83
  go_upto_region 3 with (fail)
  generalize w.setCell ⟨gr,a,none⟩ (.int .i64 z)=w2 at *;go_wp2_with fail
  go_ret;exact ⟨am (by rw [HE.out.2.1]),by rw [HE.out.1];exact HS.out,HE.out.2.2⟩
 ·have e1:bS hs a z=hs:=by unfold bS;rw [if_neg (by omega)]
  have e2:R=decide (X=z):=by rw [hR];unfold fL;rw [e1,hX]
  have HE:=Hd (And.intro e1 e2);have HS:=Hd h;clear hR hX hn e1 e2 h
  go_enter Tryz.func83,Tryz.ntmps83
  go_wp2_with fail
  go_ret;refine ⟨am ?_,by rw [HE.out.1];exact HS.out,Only.refl _ _⟩;rw [HE.out.2,Bool.eq_iff_iff,beq_iff_eq,decide_eq_true_eq]
theorem wQ (n:Nat):madeCells #[Value.int .i64 0] n=ivA (List.replicate n 0):=by
 apply Array.ext_getElem?
 intro i;rw [ii,List.getElem?_replicate];simp [madeCells,Nat.mod_one];split<;>simp_all
theorem mw (n:Nat) (hn:n≤65537) (w:World):(Instr.makeSlice 26 (.int .i64 (n:Int)) (.int .i64 (n:Int))).run Tryz.prog w=.ok (.slice (some ⟨w.heap.size,0,none⟩) n n) (w.alloc (.cells (ivA (List.replicate n 0)) 3)):=by
 rw [← wQ];exact run_make_row' (P:=Tryz.prog) 26 3 (.int .i64 0) 8 Tryz.underlying26 qJ rfl .i64 .i64 n (by omega) (by omega) w
def stkQ (c:Cd) (L:List Lp) (hs:List Int):Bool:=match stkL L hs with | none=>false | some h2=>fL h2 c.ins.length 0
theorem wR {c:Cd} {L:List Lp} {m:Nat} {l:Lp} {hs:List Int} (h:L[m]?=some l):stkQ c (L.drop m) hs=(if fL hs l.fr.toNat 0=true then stkQ c (L.drop (m+1)) (bS hs l.fr.toNat 0) else false):=by
 obtain ⟨hlt,rfl⟩:=List.getElem?_eq_some_iff.1 h;rw [List.drop_eq_getElem_cons hlt];unfold stkQ;rw [stkL]
 by_cases hh:fL hs L[m].fr.toNat 0=true
 ·rw [if_pos hh,if_pos hh]
 ·rw [if_neg hh,if_neg hh]
def stkE (c:Cd) (hs:List Int):Bool:=stkQ c c.loops hs
def stkR (c:Cd) (is:List Ins) (k:Nat) (hs:List Int):Bool:=match stkF is k hs with | none=>false | some h=>stkE c h
theorem wT {c:Cd} {l:List Ins} {j:Nat} {x:Ins} {hs:List Int} (h:l[j]?=some x):stkR c (l.drop j) j hs=(match stkI x j hs with | none=>false | some h=>stkR c (l.drop (j+1)) (j+1) h):=by
 obtain ⟨hlt,rfl⟩:=List.getElem?_eq_some_iff.1 h;rw [List.drop_eq_getElem_cons hlt];unfold stkR;rw [stkF];cases stkI l[j] j hs<;>rfl
def HB (hs:List Int):Prop:=∀ k,-1≤hs.getD k 0∧hs.getD k 0≤64
theorem HB.set {hs:List Int} (h:HB hs) (a:Nat) {z:Int} (h0:0≤z) (h1:z≤64):HB (bS hs a z):=by
 intro k;unfold bS;split
 ·rw [dr];split
  ·omega
  ·exact h k
 ·exact h k
theorem tA {w:World} {c:Cd} {a1 a2:Option Addr} {n1 c1 n2 c2:Nat} (h:CV w c a1 n1 c1 a2 n2 c2) (hi:jR c=true) (hb:∀ l∈c.loops,2≤l.fr∧l.fr < n1):Calls Tryz.prog 49 #[.agg #[.int .i64 c.params,.int .i64 c.locals,.slice a1 n1 c1,.slice a2 n2 c2]] w fun e w'=>e=.returned (.bool (jT c))∧Only [] w w':=by
  obtain ⟨R,hR⟩:∃ R,R=jT c:=⟨_,rfl⟩
  rw [← hR];have HR:=Hd hR;have HBB:=Hd hb;have HI:=Hd hi;clear hR hb hi
  go_enter Tryz.func49,Tryz.ntmps49
  go_upto_region 1 with (fail)
  obtain ⟨w1,q9,o1,hK,-⟩:=nb w (.cells #[.int .i64 c.params,.int .i64 c.locals,.slice a1 n1 c1,.slice a2 n2 c2] 76);rw [← q9];clear q9;obtain ⟨g,hg⟩:∃ g,g=w.heap.size:=⟨_,rfl⟩
  rw [← hg] at hK⊢;have hgl:=ak hK;have HO:=Hd o1;have HK:=Hd hK;have HC:=Hd (h.quiet o1);have b1:=h.b1;have b2:=h.b2;have HN:=Hd (And.intro h.e1 h.e2);clear h o1 hK hg;have k0:w1.cell? ⟨g,0,none⟩=some (.int .i64 c.params):=ab 0 HK.out;have k1:w1.cell? ⟨g,1,none⟩=some (.int .i64 c.locals):=ab 1 HK.out;have k2:w1.cell? ⟨g,2,none⟩=some (.slice a1 n1 c1):=ab 2 HK.out;have k3:w1.cell? ⟨g,3,none⟩=some (.slice a2 n2 c2):=ab 3 HK.out;have hM:=mw (n1+1) (by omega);rw [show ((n1+1:Nat):Int)=(n1:Int)+1 by omega] at hM;go_upto_region 2 with (fail)
  clear hM;obtain ⟨w2,q9,o2,hr,s2⟩:=nb w1 (.cells (ivA (List.replicate (n1+1) 0)) 3);rw [← q9];obtain ⟨w3,q9,o3,hv,-⟩:=nb w2 (.cells #[.slice (some ⟨w1.heap.size,0,none⟩) (n1+1) (n1+1)] 26);rw [← q9];clear q9;rw [s2] at hv;obtain ⟨gv,hgv⟩:∃ g,g=w1.heap.size+1:=⟨_,rfl⟩
  obtain ⟨gr,hgr⟩:∃ g,g=w1.heap.size:=⟨_,rfl⟩
  rw [← hgv,← hgr] at hv;rw [← hgr] at hr;rw [← hgv,← hgr];have HG:=Hd (show w1.heap.size≤gr by omega);have HM:Hid (HtM w3 gv gr (List.replicate 0 (-1)++List.replicate (n1+1 - 0) 0)):=Hd ⟨by simpa using hv,by show PB w3 gr _ ([]++List.replicate (n1+1) 0);rw [List.nil_append];exact o3.heap hr (by simp)⟩;have HW:=Hd (o2.trans o3 (by simp));have k3:w3.cell? ⟨gv,0,none⟩=some (.slice (some ⟨gr,0,none⟩) (n1+1) (n1+1)):=ab 0 hv;clear hv hr s2 hgv hgr o2 o3 k0 k1 k2;go_wp2_with fail
  go_loopw [21] (fun ix wr=>∃ j:Nat,j≤n1+1∧ix=.int .i64 (j:Int)∧Hid (HtM wr gv gr (List.replicate j (-1)++List.replicate (n1+1 - j) 0))∧Hid (Only [] w1 wr)) (fun ix _=>n1+1 - (intOf ix).toNat)
  case atStart=>exact ⟨0,Nat.zero_le _,rfl,HM,HW⟩
  case round=>
    obtain ⟨j,hjn,rfl,HMj,HWj⟩:=hrel;clear HM HW k3;have hlen:(List.replicate j (-1:Int)++List.replicate (n1+1 - j) 0).length=n1+1:=by simp;omega
    have hv:=HMj.out.v;rw [hlen] at hv
    by_cases hlt:j < n1+1
    · have hlt':(j:Int) < (n1:Int)+1:=by omega
      have j0:(0:Int)≤(j:Int):=by omega
      have k3:wr.cell? ⟨gv,0,none⟩=some (.slice (some ⟨gr,0,none⟩) (n1+1) (n1+1)):=ab 0 hv;have hf:wr.frozen? ⟨gr,j,none⟩=false:=HMj.out.r.free j;have hc:=HMj.out.cell (i:=j) (by rw [hlen];exact hlt);have hS:=HMj.out.set j (-1);have oS:Only [] w1 (wr.setCell ⟨gr,j,none⟩ (.int .i64 (-1))):=HWj.out.setCell (.inr HG.out) _;have eS:(List.replicate j (-1:Int)++List.replicate (n1+1 - j) 0).set j (-1)=List.replicate (j+1) (-1)++List.replicate (n1+1 - (j+1)) 0:=by
        rw [List.set_append_right _ _ (by simp),List.length_replicate,Nat.sub_self,show n1+1 - j=n1+1 - (j+1)+1 by omega,List.replicate_succ,List.set_cons_zero,List.replicate_succ' (n:=j),List.append_assoc];rfl
      rw [eS] at hS;have HS:=Hd hS;have OS:=Hd oS;clear hS oS eS hv hlen;(go_wp2_with fail);go_roundw
      case rel=>exact ⟨j+1,by omega,by simp,HS,OS⟩
      case measure=>simp [intOf];omega
    · have hj:j=n1+1:=by omega
      have hlt':(n1:Int)+1≤(j:Int):=by omega
      have hM:=HMj.out;rw [hj,Nat.sub_self,List.replicate_zero,List.append_nil] at hM;have HM2:=Hd hM;clear hj;have HR2:=Hd (show R=stkR c (c.ins.drop 0) 0 (List.replicate (n1+1) (-1)) by rw [HR.out,HN.out.1];rfl);have k2:wr.cell? ⟨g,2,none⟩=some (.slice a1 n1 c1):=ab 2 (HWj.out.heap HK.out (by simp));clear hM hv hlen HR
      have HB0:=Hd (show HB (List.replicate (n1+1) (-1)) by
        intro k;rw [List.getD_eq_getElem?_getD,List.getElem?_replicate]
        split<;>simp)
      have HL0:=Hd (show (List.replicate (n1+1) (-1:Int)).length=n1+1 by simp);generalize List.replicate (n1+1) (-1:Int)=hs0 at HM2 HR2 HB0 HL0;clear hjn hlt HMj;go_wp2_with fail
      go_loopw [33] (fun ix wr=>∃ (j:Nat) (hs:List Int),j≤n1∧ix=.int .i64 (j:Int)∧Hid (HtM wr gv gr hs)∧Hid (hs.length=n1+1)∧Hid (HB hs)∧Hid (R=stkR c (c.ins.drop j) j hs)∧Hid (Only [] w1 wr)) (fun ix _=>n1 - (intOf ix).toNat)
      case atStart=>exact ⟨0,hs0,Nat.zero_le _,rfl,HM2,HL0,HB0,HR2,HWj⟩
      case round=>
        clear HM2 HL0 HB0 HR2 HWj k2;obtain ⟨j,hs,hjn,rfl,HM,HL,HBj,HT,HW⟩:=hrel
        by_cases hlt:j < n1
        · have hlt':(j:Int) < (n1:Int):=by omega
          have j0:(0:Int)≤(j:Int):=by omega
          obtain ⟨i,gl,o,hl,rfl,z0,z1⟩:=(HC.out.quiet HW.out).instr hlt;have hok:=gF HI.out hl;rw [Nat.zero_add] at hok;have hT:=HT.out;rw [wT hl] at hT;have HT2:=Hd hT;have HOK:=Hd hok;clear hl hok hT HT;(go_upto_region 11 with (fail));obtain ⟨w9,q9,oB,hB,-⟩:=nb wr (.cells #[.int .i64 i.1,.int .i64 i.2] 52);rw [← q9];clear q9;obtain ⟨gb,hgb⟩:∃ g,g=wr.heap.size:=⟨_,rfl⟩
          rw [← hgb] at hB⊢;have hM:=HM.out.quiet oB;have hgr:gr < gb:=by rw [hgb];exact HM.out.r.lt
          have y0:w9.cell? ⟨gb,0,none⟩=some (.int .i64 i.1):=ab 0 hB;have y1:w9.cell? ⟨gb,1,none⟩=some (.int .i64 i.2):=ab 1 hB;have hv:=hM.v;rw [HL.out] at hv;have k3:w9.cell? ⟨gv,0,none⟩=some (.slice (some ⟨gr,0,none⟩) (n1+1) (n1+1)):=ab 0 hv;have hc:=hM.cell (i:=j) (by rw [HL.out];omega);have hf:w9.frozen? ⟨gr,j,none⟩=false:=hM.r.free j;have HW9:=Hd (HW.out.trans oB (by simp));have HIB:=Hd hB;have HM9:=Hd hM;obtain ⟨X,hX⟩:∃ X,X=hs.getD j 0:=⟨_,rfl⟩
          rw [← hX] at hc;have HXX:=Hd hX;have HNE:=Hd (show gb≠gr by omega);obtain ⟨h0,hh0⟩:∃ h,h=bS hs j 0:=⟨_,rfl⟩
          have HL0:=Hd (show h0.length=n1+1 by rw [hh0,dZ,HL.out]);have HB0:=Hd (show HB h0 by rw [hh0];exact HBj.out.set j (by omega) (by omega));have HH0:=Hd hh0;clear oB hB hM hv hgb hgr HW HM hX hh0;obtain ⟨H,hH⟩:∃ H,H=h0.getD j 0:=⟨_,rfl⟩
          have hHb:=HB0.out j;have hH0:0≤h0.getD j 0:=by rw [HH0.out];exact nP hs j
          rw [← hH] at hHb hH0;obtain ⟨ok1,ok2⟩:=mu HOK.out;obtain ⟨P,hP⟩:∃ P,P=(mvs i.1).1:=⟨_,rfl⟩
          obtain ⟨Q,hQ⟩:∃ Q,Q=(mvs i.1).2:=⟨_,rfl⟩
          have hPQ:0≤P∧P≤2∧0≤Q∧Q≤1:=by rw [hP,hQ];unfold mvs;(repeat' split)<;>decide
          have KM:=wH i.1 ok1 ok2;obtain ⟨h2,hh2⟩:∃ h2,h2=H - P+Q:=⟨_,rfl⟩
          have HS:=Hd (show stkI i j hs=(if H - P < 0∨64 < h2∨(i.1=14∧H - P≠0) then none else if i.1=12 then (if fL h0 i.2.toNat h2 then some (bS h0 i.2.toNat h2) else none) else if fL h0 (j+1) h2=false then none
            else if i.1=13 then (if fL (bS h0 (j+1) h2) i.2.toNat h2 then some (bS (bS h0 (j+1) h2) i.2.toNat h2) else none) else some (bS h0 (j+1) h2)) by
            rw [hh2,hP,hQ,hH,HH0.out];rfl)
          rw [← hP,← hQ] at KM;have HPH:=Hd (And.intro hH (And.intro hP hQ));have HD:=Hd (fun h:i.1=12∨i.1=13=>eE HOK.out h);clear hH hP hQ HOK
          by_cases hx:X < 0
          all_goals
            (go_upto_region 13 with (fail));first
            | (have e:=HH0.out
               unfold bS at e;rw [if_pos (by rw [← HXX.out];exact hx)] at e;have hm:=HM9.out.set j 0;rw [← e] at hm;have ox:Only [gr] w9 (w9.setCell ⟨gr,j,none⟩ (.int .i64 0)):=oc;have HX0:=Hd (HW9.out.trans ox (fun k hk=>.inr (by rw [List.mem_singleton.1 hk];exact HG.out)));have HY0:=Hd (ox.heap HIB.out (by simpa using HNE.out));generalize w9.setCell ⟨gr,j,none⟩ (.int .i64 0)=wx at hm HX0 HY0⊢;have HM0:=Hd hm
               clear e hm ox)
            | (have e:=HH0.out
               unfold bS at e;rw [if_neg (by rw [← HXX.out];exact hx)] at e;have hm:=HM9.out;rw [← e] at hm;have HX0:=HW9;have HY0:=HIB;have HM0:=Hd hm;generalize w9=wx at *
               clear e hm)
            clear hx y0 y1 k3 hc hf HM9 HIB HW9 HXX;have y0:wx.cell? ⟨gb,0,none⟩=some (.int .i64 i.1):=ab 0 HY0.out;have hv:=HM0.out.v;rw [HL0.out] at hv;have k3:wx.cell? ⟨gv,0,none⟩=some (.slice (some ⟨gr,0,none⟩) (n1+1) (n1+1)):=ab 0 hv;have hc:=HM0.out.cell (i:=j) (by rw [HL0.out];omega);rw [← HPH.out.1] at hc;clear hv;(go_wp2_with fail);refine (KM _).mono ?_;rintro e w10 ⟨rfl,rfl⟩;clear KM;have hs:(H - P < 0∨(0≤H - P∧64 < h2)∨(0≤H - P∧h2≤64∧i.1=14∧H - P≠0))∨(0≤H - P∧h2≤64∧¬ (i.1=14∧H - P≠0)):=by omega
            rcases hs with (s1 | ⟨s1,s2⟩ | ⟨s1,s2,s3,s4⟩) | ⟨s1,s2,s3⟩
            iterate 3
              ·
                (try have s5:64 < H - P+Q:=by omega);(try have s6:(H - P != 0)=true:=by rw [bne_iff_ne];omega);have hR:=HT2.out;rw [HS.out,if_pos (by omega)] at hR;have HRF:=Hd (show R=false from hR);clear hR HT2 hh2;go_wp2_with fail
                all_goals
                  go_ret;exact ⟨am HRF.out.symm,HO.out.trans HX0.out (by simp)⟩
            have HH2:=Hd hh2;have s5:H - P+Q≤64:=by omega
            have hb2:0≤h2:=by omega
            clear hh2
            by_cases h12:i.1=12
            · have hR:=HT2.out
              rw [HS.out,if_neg (by omega),if_pos h12] at hR;obtain ⟨t1,t2⟩:=HD.out (.inl h12);rw [← HN.out.1] at t2;obtain ⟨t,ht⟩:∃ t:Nat,i.2=(t:Int):=⟨i.2.toNat,by omega⟩
              rw [ht] at t1 t2;rw [ht,Int.toNat_natCast] at hR;have HT3:=Hd hR;have y1:wx.cell? ⟨gb,1,none⟩=some (.int .i64 (t:Int)):=by rw [← ht];exact ab 1 HY0.out
              rw [h12] at y0;clear hR HT2 ht HS h12 s3;(go_wp2_with fail);(try rw [← HH2.out]);refine (eZ HM0.out (by rw [HL0.out];omega) t (by rw [HL0.out];omega) h2).mono ?_;rintro e w11 ⟨rfl,hm,ox⟩;obtain ⟨B,hB⟩:∃ B,B=fL h0 t h2:=⟨_,rfl⟩
              obtain ⟨h11,hh⟩:∃ h,h=bS h0 t h2:=⟨_,rfl⟩
              rw [← hh] at hm;rw [← hB];have HL11:=Hd (show h11.length=n1+1 by rw [hh,dZ,HL0.out]);have HB11:=Hd (show HB h11 by rw [hh];exact HB0.out.set _ (by omega) (by omega));have hR:=HT3.out;rw [← hh,← hB] at hR;have HT4:=Hd hR;have HM11:=Hd hm;have HX11:=Hd (HX0.out.trans ox (fun k hk=>.inr (by rw [List.mem_singleton.1 hk];exact HG.out)));have HY11:=Hd (ox.heap HY0.out (by simpa using HNE.out));clear hm ox hB hh hR HT3;have HT3:=HT4;clear HT4;clear k3 hc y0 y1;cases B with
              | false=>
                have HRF:=Hd (show R=false from HT3.out);clear HT3;(go_wp2_with fail);go_ret;exact ⟨am HRF.out.symm,HO.out.trans HX11.out (by simp)⟩
              | true=>
                have HRF:=Hd (show R=stkR c (c.ins.drop (j+1)) (j+1) h11 from HT3.out);clear HT3;(go_wp2_with fail);go_roundw
                · exact ⟨j+1,h11,by omega,by simp,HM11,HL11,HB11,HRF,HX11⟩
                · simp [intOf];omega
            · have hR:=HT2.out
              rw [HS.out,if_neg (by omega),if_neg h12] at hR;have e12:(i.1 != 12)=true:=by simpa using h12
              have hs3:(i.1=14∧H - P=0)∨i.1≠14:=by omega
              have HT3:=Hd hR;have HE:=Hd h12;clear hR HT2 HS h12 s3;rcases hs3 with ⟨h14,s3⟩ | h14
              rotate_left
              · go_wp2_with fail
                (try rw [← HH2.out]);refine (eZ HM0.out (by rw [HL0.out];omega) (j+1) (by rw [HL0.out];omega) h2).mono ?_;rintro e w11 ⟨rfl,hm,ox⟩;obtain ⟨B,hB⟩:∃ B,B=fL h0 (j+1) h2:=⟨_,rfl⟩
                obtain ⟨h11,hh⟩:∃ h,h=bS h0 (j+1) h2:=⟨_,rfl⟩
                rw [← hh] at hm;rw [← hB];have HL11:=Hd (show h11.length=n1+1 by rw [hh,dZ,HL0.out]);have HB11:=Hd (show HB h11 by rw [hh];exact HB0.out.set _ (by omega) (by omega));have hR:=HT3.out;rw [← hh,← hB] at hR;have HT4:=Hd hR;have HM11:=Hd hm;have HX11:=Hd (HX0.out.trans ox (fun k hk=>.inr (by rw [List.mem_singleton.1 hk];exact HG.out)));have HY11:=Hd (ox.heap HY0.out (by simpa using HNE.out));clear hm ox hB hh hR HT3;have HT3:=HT4;clear HT4;clear k3 hc y0;cases B with
                | false=>
                  have HRF:=Hd (show R=false from HT3.out);clear HT3;(go_wp2_with fail);go_ret;exact ⟨am HRF.out.symm,HO.out.trans HX11.out (by simp)⟩
                | true=>
                  by_cases h13:i.1=13
                  · have hR:=HT3.out
                    rw [if_neg (by decide),if_pos h13] at hR;obtain ⟨t1,t2⟩:=HD.out (.inr h13);rw [← HN.out.1] at t2;obtain ⟨t,ht⟩:∃ t:Nat,i.2=(t:Int):=⟨i.2.toNat,by omega⟩
                    rw [ht] at t1 t2;rw [ht,Int.toNat_natCast] at hR;have HT5:=Hd hR;have y0:w11.cell? ⟨gb,0,none⟩=some (.int .i64 13):=by rw [← h13];exact ab 0 HY11.out
                    have y1:w11.cell? ⟨gb,1,none⟩=some (.int .i64 (t:Int)):=by rw [← ht];exact ab 1 HY11.out
                    clear hR HT3 ht h13 h14 e12;have HT3:=HT5;clear HT5;(go_wp2_with fail);(try rw [← HH2.out]);refine (eZ HM11.out (by rw [HL11.out];omega) t (by rw [HL11.out];omega) h2).mono ?_;rintro e w12 ⟨rfl,hm,ox⟩;obtain ⟨B,hB⟩:∃ B,B=fL h11 t h2:=⟨_,rfl⟩
                    obtain ⟨h12,hh⟩:∃ h,h=bS h11 t h2:=⟨_,rfl⟩
                    rw [← hh] at hm;rw [← hB];have HL12:=Hd (show h12.length=n1+1 by rw [hh,dZ,HL11.out]);have HB12:=Hd (show HB h12 by rw [hh];exact HB11.out.set _ (by omega) (by omega));have hR:=HT3.out;rw [← hh,← hB] at hR;have HT4:=Hd hR;have HM12:=Hd hm;have HX12:=Hd (HX11.out.trans ox (fun k hk=>.inr (by rw [List.mem_singleton.1 hk];exact HG.out)));have HY12:=Hd (ox.heap HY11.out (by simpa using HNE.out));clear hm ox hB hh hR HT3;have HT3:=HT4;clear HT4;clear y0 y1;cases B with
                    | false=>
                      have HRF:=Hd (show R=false from HT3.out);clear HT3;(go_wp2_with fail);go_ret;exact ⟨am HRF.out.symm,HO.out.trans HX12.out (by simp)⟩
                    | true=>
                      have HRF:=Hd (show R=stkR c (c.ins.drop (j+1)) (j+1) h12 from HT3.out);clear HT3;(go_wp2_with fail);go_roundw
                      · exact ⟨j+1,h12,by omega,by simp,HM12,HL12,HB12,HRF,HX12⟩
                      · simp [intOf];omega
                  · have hR:=HT3.out
                    rw [if_neg (by decide),if_neg h13] at hR;have HT5:=Hd hR;have y0:w11.cell? ⟨gb,0,none⟩=some (.int .i64 i.1):=ab 0 HY11.out;have h12:¬ i.1=12:=HE.out;clear hR HT3 h14 e12;have HT3:=HT5;clear HT5;(go_wp2_with fail);have HRF:=Hd (show R=stkR c (c.ins.drop (j+1)) (j+1) h11 from HT3.out);clear HT3;(go_wp2_with fail);go_roundw
                    · exact ⟨j+1,h11,by omega,by simp,HM11,HL11,HB11,HRF,HX11⟩
                    · simp [intOf];omega
              · have n13:¬ i.1=13:=by omega
                have hR:=HT3.out;rw [if_neg n13] at hR;have HT5:=Hd hR;clear hR HT3;have HT3:=HT5;rw [h14] at y0;have H14:=Hd h14;replace HH2:Hid (h2=Q):=Hd (by have:=HH2.out;omega);clear HT5 n13 h14 e12;(go_wp2_with fail);(try rw [← HH2.out]);refine (eZ HM0.out (by rw [HL0.out];omega) (j+1) (by rw [HL0.out];omega) h2).mono ?_;rintro e w11 ⟨rfl,hm,ox⟩;obtain ⟨B,hB⟩:∃ B,B=fL h0 (j+1) h2:=⟨_,rfl⟩
                obtain ⟨h11,hh⟩:∃ h,h=bS h0 (j+1) h2:=⟨_,rfl⟩
                rw [← hh] at hm;rw [← hB];have HL11:=Hd (show h11.length=n1+1 by rw [hh,dZ,HL0.out]);have HB11:=Hd (show HB h11 by rw [hh];exact HB0.out.set _ (by omega) (by omega));have hR:=HT3.out;rw [← hh,← hB] at hR;have HT4:=Hd hR;have HM11:=Hd hm;have HX11:=Hd (HX0.out.trans ox (fun k hk=>.inr (by rw [List.mem_singleton.1 hk];exact HG.out)));have HY11:=Hd (ox.heap HY0.out (by simpa using HNE.out));clear hm ox hB hh hR HT3;have HT3:=HT4;clear HT4;clear k3 hc y0;have y0:w11.cell? ⟨gb,0,none⟩=some (.int .i64 14):=by rw [← H14.out];exact ab 0 HY11.out
                cases B with
                | false=>
                  have HRF:=Hd (show R=false from HT3.out);clear HT3;(go_wp2_with fail);go_ret;exact ⟨am HRF.out.symm,HO.out.trans HX11.out (by simp)⟩
                | true=>
                  have HRF:=Hd (show R=stkR c (c.ins.drop (j+1)) (j+1) h11 from HT3.out);clear HT3;(go_wp2_with fail);go_roundw
                  · exact ⟨j+1,h11,by omega,by simp,HM11,HL11,HB11,HRF,HX11⟩
                  · simp [intOf];omega
        · have hj:j=n1:=by omega
          have hlt':(n1:Int)≤(j:Int):=by omega
          have hT:=HT.out;rw [hj,List.drop_of_length_le (by rw [HN.out.1];exact Nat.le_refl _)] at hT;have HT2:=Hd (show R=stkQ c (c.loops.drop 0) hs from hT);have k3:wr.cell? ⟨g,3,none⟩=some (.slice a2 n2 c2):=ab 3 (HW.out.heap HK.out (by simp));clear hj hT HT hjn hlt HBj HI;(go_wp2_with fail);generalize decide (j < n1)=dd;clear hlt'
          go_loopw [110] (fun ix wr=>∃ (m:Nat) (hs:List Int),m≤n2∧ix=.int .i64 (m:Int)∧Hid (HtM wr gv gr hs)∧Hid (hs.length=n1+1)∧Hid (R=stkQ c (c.loops.drop m) hs)∧Hid (Only [] w1 wr)) (fun ix _=>n2 - (intOf ix).toNat)
          case atStart=>exact ⟨0,hs,Nat.zero_le _,rfl,HM,HL,HT2,HW⟩
          case round=>
            clear HM HL HT2 HW k3;obtain ⟨m,hs,hmn,rfl,HM,HL,HT,HW⟩:=hrel
            by_cases hml:m < n2
            · have hml':(m:Int) < (n2:Int):=by omega
              have m0:(0:Int)≤(m:Int):=by omega
              obtain ⟨l,gl,o,hl,rfl,z0,z1,z2,z3⟩:=(HC.out.quiet HW.out).loop hml;have hbl:=HBB.out l (List.mem_of_getElem? hl);obtain ⟨t,ht⟩:∃ t:Nat,l.fr=(t:Int):=⟨l.fr.toNat,by omega⟩
              have hT:=HT.out;rw [wR hl,ht,Int.toNat_natCast] at hT;rw [ht] at hbl;have HT2:=Hd hT;have HTT:=Hd ht;clear hl hT HT ht;(go_upto_region 26 with (fail));obtain ⟨w9,q9,oB,hB,-⟩:=nb wr (.cells #[.int .i64 l.loc,.int .i64 l.n,.int .i64 l.fr,.int .i64 l.lst] 54);rw [← q9];clear q9;obtain ⟨gb,hgb⟩:∃ g,g=wr.heap.size:=⟨_,rfl⟩
              rw [← hgb] at hB⊢;have y2:w9.cell? ⟨gb,2,none⟩=some (.int .i64 (t:Int)):=by rw [← HTT.out];exact ab 2 hB
              have HM9:=Hd (HM.out.quiet oB);have HX9:=Hd (HW.out.trans oB (by simp));clear z0 z1 z2 z3 oB hB hgb HM HW HTT;(go_wp2_with fail);refine (eZ HM9.out (by rw [HL.out];omega) t (by rw [HL.out];omega) 0).mono ?_;rintro e w11 ⟨rfl,hm,ox⟩;obtain ⟨B,hB⟩:∃ B,B=fL hs t 0:=⟨_,rfl⟩
              obtain ⟨h1,hh⟩:∃ h,h=bS hs t 0:=⟨_,rfl⟩
              rw [← hh] at hm;rw [← hB];have HL1:=Hd (show h1.length=n1+1 by rw [hh,dZ,HL.out]);have hR:=HT2.out;rw [← hh,← hB] at hR;have HT3:=Hd hR;have HM1:=Hd hm;have HX1:=Hd (HX9.out.trans ox (fun k hk=>.inr (by rw [List.mem_singleton.1 hk];exact HG.out)));clear hm ox hB hh hR HT2 y2;cases B with
              | false=>
                have HRF:=Hd (show R=false from HT3.out);clear HT3;(go_wp2_with fail);go_ret;exact ⟨am HRF.out.symm,HO.out.trans HX1.out (by simp)⟩
              | true=>
                have HRF:=Hd (show R=stkQ c (c.loops.drop (m+1)) h1 from HT3.out);clear HT3;(go_wp2_with fail);go_roundw
                · exact ⟨m+1,h1,by omega,by simp,HM1,HL1,HRF,HX1⟩
                · simp [intOf];omega
            · have hj:m=n2:=by omega
              have hml':(n2:Int)≤(m:Int):=by omega
              have hT:=HT.out;rw [hj,List.drop_of_length_le (by rw [HN.out.2];exact Nat.le_refl _)] at hT;have HT2:=Hd (show R=fL hs n1 0 by rw [hT,HN.out.1];rfl);have k2:wr.cell? ⟨g,2,none⟩=some (.slice a1 n1 c1):=ab 2 (HW.out.heap HK.out (by simp));clear hj hT HT;(go_wp2_with fail);refine (eZ HM.out (by rw [HL.out];omega) n1 (by rw [HL.out];omega) 0).mono ?_;rintro e w11 ⟨rfl,hm,ox⟩;have HX1:=Hd (HW.out.trans ox (fun k hk=>.inr (by rw [List.mem_singleton.1 hk];exact HG.out)));rw [← HT2.out];clear hm ox;(go_wp2_with fail);go_ret;exact ⟨rfl,HO.out.trans HX1.out (by simp)⟩
theorem eF {c:Cd} (h:nK c=true):∀ l∈c.loops,1≤l.n∧l.n≤64∧2≤l.fr∧l.fr≤l.lst∧l.lst < c.ins.length:=by
 intro l hm;have:=List.all_eq_true.1 h l hm;simp only [lpOk,wG,Bool.and_eq_true,decide_eq_true_eq] at this;omega
theorem wU {w:World} {c:Cd} {a1 a2:Option Addr} {n1 c1 n2 c2:Nat} (h:CV w c a1 n1 c1 a2 n2 c2):Calls Tryz.prog 24 #[.agg #[.int .i64 c.params,.int .i64 c.locals,.slice a1 n1 c1,.slice a2 n2 c2]] w fun e w'=>e=.returned (.bool (em c))∧Only [] w w':=by
 obtain ⟨R,hR⟩:∃ R,R=em c:=⟨_,rfl⟩
 rw [← hR];obtain ⟨B1,h1⟩:∃ B,B=fitC c:=⟨_,rfl⟩
 obtain ⟨B2,h2⟩:∃ B,B=nK c:=⟨_,rfl⟩
 obtain ⟨B3,h3⟩:∃ B,B=jR c:=⟨_,rfl⟩
 obtain ⟨B4,h4⟩:∃ B,B=headC c:=⟨_,rfl⟩
 obtain ⟨B5,h5⟩:∃ B,B=fH c.loops:=⟨_,rfl⟩
 obtain ⟨B6,h6⟩:∃ B,B=rD c:=⟨_,rfl⟩
 obtain ⟨B7,h7⟩:∃ B,B=jT c:=⟨_,rfl⟩
 obtain ⟨T,h8⟩:∃ T,T=iH c:=⟨_,rfl⟩
 have HG:=Hd (show R=(B1 && B2 && B3 && B4 && B5 && B6 && B7 && decide (T≤65536)) by rw [h1,h2,h3,h4,h5,h6,h7,h8];exact hR);clear hR
 go_enter Tryz.func24,Tryz.ntmps24
 go_upto_region 1 with (fail)
 obtain ⟨w1,q9,o1,hK,-⟩:=nb w (.cells #[.int .i64 c.params,.int .i64 c.locals,.slice a1 n1 c1,.slice a2 n2 c2] 76);rw [← q9];clear q9;obtain ⟨g,hg⟩:∃ g,g=w.heap.size:=⟨_,rfl⟩
 rw [← hg] at hK⊢;have hgl:=ak hK;have HO:=Hd o1;have HK:=Hd hK;have HC:=Hd (h.quiet o1);have b1:=h.b1;have b2:=h.b2;have HN:=Hd (And.intro h.e1 h.e2);clear h o1 hK hg;have K1:=Hd (fun W (hW:Only [] w1 W)=>by have:=wI (HC.out.quiet hW);rwa [← h1] at this);have K2:=Hd (fun W (hW:Only [] w1 W)=>by have:=tn (HC.out.quiet hW);rwa [← h2] at this);have K3:=Hd (fun W (hW:Only [] w1 W)=>by have:=qn (HC.out.quiet hW);rwa [← h3] at this);have K4:=Hd (fun (e:B2=true) W (hW:Only [] w1 W)=>by have:=qo (HC.out.quiet hW) (fun l hl=>by have:=eF (h2.symm.trans e) l hl;omega);rwa [← h4] at this);have K5:=Hd (fun (e:B2=true) W (hW:Only [] w1 W)=>by have:=qq (HC.out.quiet hW) (fun l hl=>by have:=eF (h2.symm.trans e) l hl;have:=HN.out.1;omega);rwa [← h5] at this);have K6:=Hd (fun (e:B2=true) W (hW:Only [] w1 W)=>by have:=tz (HC.out.quiet hW) (fun l hl=>by have:=eF (h2.symm.trans e) l hl;have:=HN.out.1;omega);rwa [← h6] at this);have K7:=Hd (fun (e:B2=true) (e3:B3=true) W (hW:Only [] w1 W)=>by have:=tA (HC.out.quiet hW) (h3.symm.trans e3) (fun l hl=>by have:=eF (h2.symm.trans e) l hl;have:=HN.out.1;omega);rwa [← h7] at this);have K8:=Hd (fun (e:B2=true) W (hW:Only [] w1 W)=>by have:=tw (HC.out.quiet hW) (fun l hl=>by have:=eF (h2.symm.trans e) l hl;omega);rwa [← h8] at this);have HW0:=Hd (Only.refl [] w1);clear h1 h2 h3 h4 h5 h6 h7 h8;have k0:w1.cell? ⟨g,0,none⟩=some (.int .i64 c.params):=ab 0 HK.out;have k1:w1.cell? ⟨g,1,none⟩=some (.int .i64 c.locals):=ab 1 HK.out;have k2:w1.cell? ⟨g,2,none⟩=some (.slice a1 n1 c1):=ab 2 HK.out;have k3:w1.cell? ⟨g,3,none⟩=some (.slice a2 n2 c2):=ab 3 HK.out;go_wp2_with fail
 refine (K1.out _ HW0.out).mono ?_;rintro e w1 ⟨rfl,o3⟩;have HW1:=Hd (HW0.out.trans o3 (by simp));clear o3 k0 k1 k2 k3;have k0:w1.cell? ⟨g,0,none⟩=some (.int .i64 c.params):=ab 0 (HW1.out.heap HK.out (by simp));have k1:w1.cell? ⟨g,1,none⟩=some (.int .i64 c.locals):=ab 1 (HW1.out.heap HK.out (by simp));have k2:w1.cell? ⟨g,2,none⟩=some (.slice a1 n1 c1):=ab 2 (HW1.out.heap HK.out (by simp));have k3:w1.cell? ⟨g,3,none⟩=some (.slice a2 n2 c2):=ab 3 (HW1.out.heap HK.out (by simp));rcases Bool.eq_false_or_eq_true B1 with rfl | rfl
 rotate_left
 ·clear k0 k1 k2 k3;go_wp2_with fail
  go_ret;exact ⟨am (by rw [HG.out];simp),HO.out.trans HW1.out (by simp)⟩
 go_wp2_with fail
 refine (K2.out _ HW1.out).mono ?_;rintro e w2 ⟨rfl,o3⟩;have HW2:=Hd (HW1.out.trans o3 (by simp));clear o3 k0 k1 k2 k3;have k0:w2.cell? ⟨g,0,none⟩=some (.int .i64 c.params):=ab 0 (HW2.out.heap HK.out (by simp));have k1:w2.cell? ⟨g,1,none⟩=some (.int .i64 c.locals):=ab 1 (HW2.out.heap HK.out (by simp));have k2:w2.cell? ⟨g,2,none⟩=some (.slice a1 n1 c1):=ab 2 (HW2.out.heap HK.out (by simp));have k3:w2.cell? ⟨g,3,none⟩=some (.slice a2 n2 c2):=ab 3 (HW2.out.heap HK.out (by simp));rcases Bool.eq_false_or_eq_true B2 with rfl | rfl
 rotate_left
 ·clear k0 k1 k2 k3;go_wp2_with fail
  go_ret;exact ⟨am (by rw [HG.out];simp),HO.out.trans HW2.out (by simp)⟩
 go_wp2_with fail
 refine (K3.out _ HW2.out).mono ?_;rintro e w3 ⟨rfl,o3⟩;have HW3:=Hd (HW2.out.trans o3 (by simp));clear o3 k0 k1 k2 k3;have k0:w3.cell? ⟨g,0,none⟩=some (.int .i64 c.params):=ab 0 (HW3.out.heap HK.out (by simp));have k1:w3.cell? ⟨g,1,none⟩=some (.int .i64 c.locals):=ab 1 (HW3.out.heap HK.out (by simp));have k2:w3.cell? ⟨g,2,none⟩=some (.slice a1 n1 c1):=ab 2 (HW3.out.heap HK.out (by simp));have k3:w3.cell? ⟨g,3,none⟩=some (.slice a2 n2 c2):=ab 3 (HW3.out.heap HK.out (by simp));rcases Bool.eq_false_or_eq_true B3 with rfl | rfl
 rotate_left
 ·clear k0 k1 k2 k3;go_wp2_with fail
  go_ret;exact ⟨am (by rw [HG.out];simp),HO.out.trans HW3.out (by simp)⟩
 go_wp2_with fail
 refine ((K4.out (by trivial)) _ HW3.out).mono ?_;rintro e w4 ⟨rfl,o3⟩;have HW4:=Hd (HW3.out.trans o3 (by simp));clear o3 k0 k1 k2 k3;have k0:w4.cell? ⟨g,0,none⟩=some (.int .i64 c.params):=ab 0 (HW4.out.heap HK.out (by simp));have k1:w4.cell? ⟨g,1,none⟩=some (.int .i64 c.locals):=ab 1 (HW4.out.heap HK.out (by simp));have k2:w4.cell? ⟨g,2,none⟩=some (.slice a1 n1 c1):=ab 2 (HW4.out.heap HK.out (by simp));have k3:w4.cell? ⟨g,3,none⟩=some (.slice a2 n2 c2):=ab 3 (HW4.out.heap HK.out (by simp));rcases Bool.eq_false_or_eq_true B4 with rfl | rfl
 rotate_left
 ·clear k0 k1 k2 k3;go_wp2_with fail
  go_ret;exact ⟨am (by rw [HG.out];simp),HO.out.trans HW4.out (by simp)⟩
 go_wp2_with fail
 refine ((K5.out (by trivial)) _ HW4.out).mono ?_;rintro e w5 ⟨rfl,o3⟩;have HW5:=Hd (HW4.out.trans o3 (by simp));clear o3 k0 k1 k2 k3;have k0:w5.cell? ⟨g,0,none⟩=some (.int .i64 c.params):=ab 0 (HW5.out.heap HK.out (by simp));have k1:w5.cell? ⟨g,1,none⟩=some (.int .i64 c.locals):=ab 1 (HW5.out.heap HK.out (by simp));have k2:w5.cell? ⟨g,2,none⟩=some (.slice a1 n1 c1):=ab 2 (HW5.out.heap HK.out (by simp));have k3:w5.cell? ⟨g,3,none⟩=some (.slice a2 n2 c2):=ab 3 (HW5.out.heap HK.out (by simp));rcases Bool.eq_false_or_eq_true B5 with rfl | rfl
 rotate_left
 ·clear k0 k1 k2 k3;go_wp2_with fail
  go_ret;exact ⟨am (by rw [HG.out];simp),HO.out.trans HW5.out (by simp)⟩
 go_wp2_with fail
 refine ((K6.out (by trivial)) _ HW5.out).mono ?_;rintro e w6 ⟨rfl,o3⟩;have HW6:=Hd (HW5.out.trans o3 (by simp));clear o3 k0 k1 k2 k3;have k0:w6.cell? ⟨g,0,none⟩=some (.int .i64 c.params):=ab 0 (HW6.out.heap HK.out (by simp));have k1:w6.cell? ⟨g,1,none⟩=some (.int .i64 c.locals):=ab 1 (HW6.out.heap HK.out (by simp));have k2:w6.cell? ⟨g,2,none⟩=some (.slice a1 n1 c1):=ab 2 (HW6.out.heap HK.out (by simp));have k3:w6.cell? ⟨g,3,none⟩=some (.slice a2 n2 c2):=ab 3 (HW6.out.heap HK.out (by simp));rcases Bool.eq_false_or_eq_true B6 with rfl | rfl
 rotate_left
 ·clear k0 k1 k2 k3;go_wp2_with fail
  go_ret;exact ⟨am (by rw [HG.out];simp),HO.out.trans HW6.out (by simp)⟩
 go_wp2_with fail
 refine ((K7.out (by trivial) (by trivial)) _ HW6.out).mono ?_;rintro e w7 ⟨rfl,o3⟩;have HW7:=Hd (HW6.out.trans o3 (by simp));clear o3 k0 k1 k2 k3;have k0:w7.cell? ⟨g,0,none⟩=some (.int .i64 c.params):=ab 0 (HW7.out.heap HK.out (by simp));have k1:w7.cell? ⟨g,1,none⟩=some (.int .i64 c.locals):=ab 1 (HW7.out.heap HK.out (by simp));have k2:w7.cell? ⟨g,2,none⟩=some (.slice a1 n1 c1):=ab 2 (HW7.out.heap HK.out (by simp));have k3:w7.cell? ⟨g,3,none⟩=some (.slice a2 n2 c2):=ab 3 (HW7.out.heap HK.out (by simp));rcases Bool.eq_false_or_eq_true B7 with rfl | rfl
 rotate_left
 ·clear k0 k1 k2 k3;go_wp2_with fail
  go_ret;exact ⟨am (by rw [HG.out];simp),HO.out.trans HW7.out (by simp)⟩
 go_wp2_with fail
 refine (K8.out (by trivial) _ HW7.out).mono ?_;rintro e w8 ⟨rfl,o3⟩;have HW8:=Hd (HW7.out.trans o3 (by simp));clear o3 k0 k1 k2 k3;go_wp2_with fail
 go_ret;exact ⟨am (by rw [HG.out];simp),HO.out.trans HW8.out (by simp)⟩
def tB (c:Cd):Value:=if em c=true then .nilIface else err 13
theorem fa {w:World} {c:Cd} {a1 a2:Option Addr} {n1 c1 n2 c2:Nat} (h:CV w c a1 n1 c1 a2 n2 c2):Calls Tryz.prog 13 #[.agg #[.int .i64 c.params,.int .i64 c.locals,.slice a1 n1 c1,.slice a2 n2 c2]] w fun e w'=>e=.returned (tB c)∧Only [] w w':=by
 obtain ⟨R,hR⟩:∃ R,R=tB c:=⟨_,rfl⟩
 rw [← hR];obtain ⟨G,hG⟩:∃ G,G=em c:=⟨_,rfl⟩
 have HR:=Hd (show R=if G=true then .nilIface else err 13 by rw [hR,hG];rfl);have HKG:=Hd (fun W (ho:Only [] w W)=>by have:=wU (h.quiet ho);rwa [← hG] at this);clear hR h hG
 go_enter Tryz.func13,Tryz.ntmps13
 go_upto_region 2 with (fail)
 obtain ⟨w1,q9,o1,hK,s1⟩:=nb w (.cells #[.int .i64 c.params,.int .i64 c.locals,.slice a1 n1 c1,.slice a2 n2 c2] 25);rw [← q9];obtain ⟨w2,q9,o2,hI,-⟩:=nb w1 (.cells #[.int .i64 c.params,.int .i64 c.locals,.slice a1 n1 c1,.slice a2 n2 c2] 76);rw [← q9];clear q9;rw [s1] at hI;have k0:w2.cell? ⟨w.heap.size+1,0,none⟩=some (.int .i64 c.params):=ab 0 hI;have k1:w2.cell? ⟨w.heap.size+1,1,none⟩=some (.int .i64 c.locals):=ab 1 hI;have k2:w2.cell? ⟨w.heap.size+1,2,none⟩=some (.slice a1 n1 c1):=ab 2 hI;have k3:w2.cell? ⟨w.heap.size+1,3,none⟩=some (.slice a2 n2 c2):=ab 3 hI;have HO:=Hd (o1.trans o2 (by simp));clear hI hK o1 o2 s1;go_wp2_with fail
 refine (HKG.out _ HO.out).mono ?_;rintro e w3 ⟨rfl,o3⟩;cases G with
 | true=>
  go_wp2_with fail
  go_ret;exact ⟨by rw [HR.out];rfl,HO.out.trans o3 (by simp)⟩
 | false=>
  go_wp2_with fail
  go_ret;exact ⟨by rw [HR.out];rfl,HO.out.trans o3 (by simp)⟩
end Go.Proofs.YtcebchffcmpfeaaGreat
