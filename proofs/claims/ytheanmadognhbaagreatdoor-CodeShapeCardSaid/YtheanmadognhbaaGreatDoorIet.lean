import Derived.Test.YtheanmadognhbaaGreatDoorI8t
import Derived.Test.YtheanmadognhbaaGreatDoorQ13t
namespace Go.Proofs.YtheanmadognhbaaGreatDoor
set_option linter.unusedVariables false
set_option linter.unusedSimpArgs false
set_option maxRecDepth 100000
set_option maxHeartbeats 16000000
open Go.RowKit Go.Maps
def GSt (w:World) (base:Nat) (v:Value) (P:Nat→Prop) (l:List St):Prop:=
 ∃ css:List (List Value),w.ownsRow base 112 7 v l.length css.flatten∧css.length=l.length∧∀ (i:Nat) (s:St) (cs:List Value),l[i]?=some s→css[i]?=some cs→SV w (fun b=>P b∧b < w.heap.size∧v.ownBlock≠some b) s cs
section
variable {w w':World} {base:Nat} {v v':Value} {P:Nat→Prop} {l:List St} {s:St} {cs:List Value} {css:List (List Value)}
theorem GSt.nil (w:World) (base:Nat) (P:Nat→Prop):GSt w base (.slice none 0 0) P []:=⟨[],World.ownsRow_nil w base _ 7,rfl,fun i s cs h=>by simp at h⟩
theorem GSt.quiet (h:GSt w base v P l) (ho:Only [] w w'):GSt w' base v P l:=by
 obtain ⟨css,h1,h2,h3⟩:=h;refine ⟨css,⟨h1.1,?_⟩,h2,fun i s cs hi hc=>SV.kept ho (by simp) (fun b hb=>⟨hb.1,by have:=ho.size;omega,hb.2.2⟩) s cs (h3 i s cs hi hc)⟩;rcases h1.2 with hn | ⟨g,cap,cur,rfl,hb,hg,r⟩
 ·exact .inl hn
 ·exact .inr ⟨g,cap,cur,rfl,hb,ho.heap hg (by simp),r⟩
theorem GSt.lt (h:GSt w base v P l):∀ g,v.ownBlock=some g→base≤g∧g < w.heap.size:=fun g hg=>by
 obtain ⟨css,h1,_⟩:=h;exact World.ownsRow.lt h1 g hg
theorem GSt.ssv (h:GSt w base v P l) (hP:∀ b,base≤b→P b):SsV w P v l:=by
 obtain ⟨css,h1,h2,h3⟩:=h;have hl:∀ cs∈css,cs.length=7:=all_css h2 h3 (fun x cs h=>SV.len h);rcases h1.2 with ⟨rfl,hn⟩ | ⟨g,cap,cur,rfl,hb,hg,hc,_,hz,ht⟩
 ·obtain rfl:l=[]:=List.eq_nil_of_length_eq_zero hn;exact SsV.nil _ _
 ·refine ⟨_,cap,rfl,hc,.inr ⟨g,rfl,hP g hb,SsAt.of l 0 css h2 (fun j s cs hs hcs=>⟨SV.kept (Only.refl [] w) (by simp) (fun b hb=>hb.1) s cs (h3 j s cs hs hcs),fun k hk=>?_⟩)⟩⟩;have hj:j < l.length:=(List.getElem?_eq_some_iff.1 hs).1;have hf:=kV hl j cs k hcs hk;rw [← ht,List.getElem?_take_of_lt (by omega)] at hf;rw [← hf,ab _ hg,Nat.zero_add];simp
theorem GSt.snoc (h2:css.length=l.length)
  (h3:∀ (i:Nat) (s:St) (cs:List Value),l[i]?=some s→css[i]?=some cs→SV w (fun b=>P b∧b < w.heap.size∧v.ownBlock≠some b) s cs) (hs:SV w (fun b=>P b∧b < w.heap.size∧v.ownBlock≠some b) s cs)
  (ho:w'.ownsRow base 112 7 v' (l.length+1) (css.flatten++cs)) (hw:Only v.ownBlock.toList w w') (hv:v'.ownBlock=v.ownBlock∨∃ g,v'.ownBlock=some g∧w.heap.size≤g):GSt w' base v' P (l++[s]):=by
 have hB:∀ (s:St) (cs:List Value),SV w (fun b=>P b∧b < w.heap.size∧v.ownBlock≠some b) s cs→SV w' (fun b=>P b∧b < w'.heap.size∧v'.ownBlock≠some b) s cs:=by
  intro s cs h;refine SV.kept hw (fun k hk hB=>hB.2.2 (by simpa using hk)) (fun b hb=>⟨hb.1,by have:=hw.size;omega,?_⟩) s cs h;rcases hv with e | ⟨g,e,hg⟩
  ·rw [e];exact hb.2.2
  ·rw [e];intro e2;have:=Option.some.inj e2;omega
 refine ⟨css++[cs],by simpa using ho,by simp [h2],fun i s' cs' hi hc=>?_⟩;rcases Nat.lt_or_ge i l.length with hlt | hge
 ·rw [List.getElem?_append_left hlt] at hi;rw [List.getElem?_append_left (by omega)] at hc;exact hB _ _ (h3 i s' cs' hi hc)
 ·rw [List.getElem?_append_right hge] at hi;rw [List.getElem?_append_right (by omega)] at hc;have e0:i - l.length=0:=by
   rcases Nat.eq_zero_or_pos (i - l.length) with e | e
   ·exact e
   ·rw [List.getElem?_eq_none (by simp;omega)] at hi;cases hi
  rw [e0] at hi;rw [h2,e0] at hc;simp at hi hc;subst hi hc;exact hB _ _ hs
end
structure GX (w wr:World) (a:Option Addr) (m c:Nat) (P:Nat→Prop) (l:List St):Prop where
 only:Only [] w wr
 row:GSt wr w.heap.size (.slice a m c) P l
 len:m=l.length
theorem GX.quiet {w wr w':World} {a:Option Addr} {m c:Nat} {P:Nat→Prop} {l:List St} (h:GX w wr a m c P l) (ho:Only [] wr w'):GX w w' a m c P l:=⟨h.only.trans ho (by simp),h.row.quiet ho,h.len⟩
theorem GX.snoc {w wr w':World} {a a':Option Addr} {m c c':Nat} {P:Nat→Prop} {l:List St} {s:St} {cs:List Value} {css:List (List Value)} (ho:Only [] w wr) (hl:m=l.length) (h2:css.length=l.length)
  (h3:∀ (i:Nat) (s:St) (cs:List Value),l[i]?=some s→css[i]?=some cs→SV wr (fun b=>P b∧b < wr.heap.size∧(Value.slice a m c).ownBlock≠some b) s cs) (hs:SV wr (fun b=>P b∧b < wr.heap.size∧(Value.slice a m c).ownBlock≠some b) s cs)
  (hb:∀ g,(Value.slice a m c).ownBlock=some g→w.heap.size≤g)
  (hw':w'.ownsRow w.heap.size 112 7 (.slice a' (m+1) c') (m+1) (css.flatten++cs)) (hw:Only (Value.slice a m c).ownBlock.toList wr w') (hv:(Value.slice a' (m+1) c').ownBlock=(Value.slice a m c).ownBlock∨(Value.slice a' (m+1) c').ownBlock=some wr.heap.size) :
  GX w w' a' (m+1) c' P (l++[s]):=by
 subst hl;exact ⟨ho.trans hw (fun g hg=>.inr (hb g (by simpa using hg))),GSt.snoc h2 h3 hs hw' hw (hv.imp id fun e=>⟨_,e,Nat.le_refl _⟩),by simp⟩
theorem letsB_at {xs:List St} {j:Nat} {x:St} (h:xs[j]?=some x):aG (xs.take (j+1))=aG (xs.take j)++(if x.kind=1 then [x] else []):=by rw [xj h,lJ]
theorem tuO_at {xs:List St} {j:Nat} {x:St} (h:xs[j]?=some x):tuO (xs.drop j)=tuO (xs.drop (j+1))++(if x.kind=1 then [] else [tuS x]):=by
 rw [xi h]
 conv=>lhs;unfold tuO
def RbP (N:Nat):Prop:=∀ (xs:List St),ah xs≤N→wB xs→∀ (w:World) (v:Value) (B:Nat→Prop),SsV w B v xs→
 Calls Tryz.prog 47 #[v] w fun en w'=>∃ a cap,en=.returned (.slice a xs.length cap)∧SsV w' (fun b=>(B b∧b < w.heap.size)∨w.heap.size≤b) (.slice a xs.length cap) (tuB xs)∧Only [] w w'
theorem qj (N:Nat) (hNN:N≤500000) (IS:∀ M,M < N→RbP M):RbP N:=by
  intro xs hN hwb w v B hv;have hlen:=bg xs;obtain ⟨a,cap,rfl,-⟩:=id hv;obtain ⟨n,hn⟩:∃ n,n=xs.length:=⟨_,rfl⟩
  rw [← hn] at hlen hv⊢;have HV:=Hd hv.lt;have HN:=Hd hn;have HWB:=Hd hwb;have hnb:n≤500000:=by omega
  obtain ⟨P,hP⟩:∃ P:Nat→Prop,P=fun b=>(B b∧b < w.heap.size)∨w.heap.size≤b:=⟨_,rfl⟩
  rw [← hP];have HP:=Hd hP;clear hn hv hwb hP
  go_enter Tryz.func47,Tryz.ntmps47
  go_wp2_with fail
  go_loopg [3,4] n (fun gk vo ix wr=>∃ (j m:Nat) (ao:Option Addr) (co:Nat),j≤n∧j+gk=n∧ix=.int .i64 (j:Int)∧vo=.slice ao m co∧m≤j∧Hid (GX w wr ao m co P (aG (xs.take j))))
  case atStart=>exact ⟨0,0,none,0,Nat.zero_le _,by omega,rfl,rfl,Nat.le_refl _,Hd ⟨Only.refl _ _,by rw [List.take_zero];unfold aG;exact GSt.nil _ _ _,by rw [List.take_zero];unfold aG;rfl⟩⟩
  case round=>
    obtain ⟨j,m,ao,co,hjn,hjg,rfl,rfl,hmj,HX⟩:=hrel
    by_cases hlt:j < n
    · have hlt':(j:Int) < (n:Int):=by omega
      have j0:(0:Int)≤(j:Int):=by omega
      obtain ⟨-,gr,k,nm,ys,nn,bd,els,p,a0,c0,a1,c1,a2,c2,rfl,he,x0,x1,x2,x3,x4,x5,x6,hv0,hv1,hv2⟩:=(HV.out.quiet HX.out.only).elem hlt;have hT1:=bn he;rw [b8] at hT1;have hws:=k8 HWB.out he;unfold wS at hws;obtain ⟨hik,-,-,hwbd,hwels⟩:=hws;obtain ⟨L0,hL0⟩:∃ L,L=ys.length:=⟨_,rfl⟩
      obtain ⟨L1,hL1⟩:∃ L,L=bd.length:=⟨_,rfl⟩
      obtain ⟨L2,hL2⟩:∃ L,L=els.length:=⟨_,rfl⟩
      obtain ⟨sn,hsn⟩:∃ sn,sn=ai nm:=⟨_,rfl⟩
      rw [← hL0] at x2 hv0;rw [← hL1] at x4 hv1;rw [← hL2] at x5 hv2;rw [← hsn] at x1;have hla:=letsB_at he
      by_cases h1:k=1
      · subst h1
        rw [if_pos (show (St.mk 1 nm ys nn bd els p).kind=1 from rfl)] at hla;have HLA:=Hd hla;have hsv:SV wr (fun b=>B b∧b < w.heap.size) (.mk 1 nm ys nn bd els p) [.int .i64 1,.string sn,.slice a0 L0 c0,.int .i64 nn,.slice a1 L1 c1,.slice a2 L2 c2,.int .i64 p]:=by
          rw [hsn];exact SV.mk' hv0 hv1 hv2
        have HSV:=Hd hsv;clear he hL0 hL1 hL2 hsn hv0 hv1 hv2 hT1 hlen hN hik hwbd hwels hla hsv;have oB:=(Only.refl [] wr).alloc (.cells #[.int .i64 1,.string sn,.slice a0 L0 c0,.int .i64 nn,.slice a1 L1 c1,.slice a2 L2 c2,.int .i64 p] 112);have hbx:=ag wr (.cells #[.int .i64 1,.string sn,.slice a0 L0 c0,.int .i64 nn,.slice a1 L1 c1,.slice a2 L2 c2,.int .i64 p] 112);obtain ⟨css,hown,hcl,hcs⟩:=(HX.out.quiet oB).row;rw [← HX.out.len] at hown;have HOWN:=Hd hown;have HCS:=Hd (And.intro hcl hcs);have HOX:=Hd (HX.out.quiet oB).only;have HLB:=Hd HX.out.row.lt;have HSZ:=Hd (show w.heap.size≤(wr.alloc (.cells #[.int .i64 1,.string sn,.slice a0 L0 c0,.int .i64 nn,.slice a1 L1 c1,.slice a2 L2 c2,.int .i64 p] 112)).heap.size from (HX.out.quiet oB).only.size)
        have HC:=Hd (show ∀ (j:Nat) (u:Value),([.int .i64 1,.string sn,.slice a0 L0 c0,.int .i64 nn,.slice a1 L1 c1,.slice a2 L2 c2,.int .i64 p]:List Value)[j]?=some u→(wr.alloc (.cells #[.int .i64 1,.string sn,.slice a0 L0 c0,.int .i64 nn,.slice a1 L1 c1,.slice a2 L2 c2,.int .i64 p] 112)).cell? ⟨wr.heap.size,j,none⟩=some u from fun j u hj=>by
          rw [ab _ hbx]
          simpa using hj)
        have HLN:=Hd HX.out.len;clear hown hcl hcs hbx oB
        go_wp2_with (
          refine b7 rfl (.tmp 19) (.tmp 24) rfl w.heap.size _ m css.flatten (by rfl) HOWN.out wr.heap.size 1 (by rfl) 1 nn p sn a0 a1 a2 L0 L1 L2 c0 c1 c2 HC.out (by omega) HSZ.out ?_;intro a8 c8 w7 how7 ho7 hb7;have HW7:=Hd (And.intro how7 (And.intro ho7 hb7))
          clear how7 ho7 hb7)
        clear x0 x1 x2 x3 x4 x5 x6
        go_roundg (n - (j+1))
        case measure=>omega
        case rel=>
          obtain ⟨how7,ho7,hb7⟩:=HW7.out;refine ⟨j+1,m+1,a8,c8,by omega,by omega,by go_num,rfl,by omega,Hd ?_⟩;rw [HLA.out];refine GX.snoc HOX.out HLN.out HCS.out.1 HCS.out.2 (SV.kept ((Only.refl [] wr).alloc _) (by simp) (fun b hb=>?_) _ _ HSV.out) (fun g hg=>(HLB.out g hg).1) how7 ho7 hb7;refine ⟨by rw [HP.out];exact .inl hb,?_,fun e=>?_⟩
          · have:=HSZ.out
            omega
          · have:=(HLB.out b e).1
            omega
      · have h1':(k == 1)=false:=by simpa using h1
        rw [if_neg (show ¬ (St.mk k nm ys nn bd els p).kind=1 from h1),List.append_nil] at hla;have HXN:Hid (GX w wr ao m co P (aG (xs.take (j+1)))):=Hd (by rw [hla];exact HX.out);clear he hL0 hL1 hL2 hsn hv0 hv1 hv2 hT1 hlen hN hik hwbd hwels hla h1;go_wp2_with fail
        go_roundg (n - (j+1))
        case measure=>omega
        case rel=>exact ⟨j+1,m,ao,co,by omega,by omega,by go_num,rfl,by omega,HXN⟩
    · obtain rfl:j=n:=by omega
      have HX2:Hid (GX w wr ao m co P (aG xs++tuO (xs.drop j))):=Hd (by
        have h:=HX.out;rw [HN.out,List.take_length] at h;rw [HN.out,List.drop_length,show tuO []=[] by unfold tuO;rfl,List.append_nil]
        exact h)
      clear HX;go_wp2_with fail
      go_loopg [3,5] j (fun gk vo ix wr=>∃ (i m:Nat) (z:Int) (ao:Option Addr) (co:Nat),i=gk∧i≤j∧ix=.int .i64 z∧z+1=(i:Int)∧vo=.slice ao m co∧m+i≤j+j∧Hid (GX w wr ao m co P (aG xs++tuO (xs.drop i))))
      case atStart=>exact ⟨j,m,(j:Int) - 1,ao,co,rfl,Nat.le_refl _,rfl,by omega,rfl,by omega,HX2⟩
      case round=>
        clear HX2 hmj;obtain ⟨i,m,z,ao,co,hig,hij,rfl,hz,rfl,hmi,HX⟩:=hrel
        by_cases hi0:i=0
        · subst hi0
          obtain rfl:z=-1:=by omega
          have hm:m=j:=by
            have h:=HX.out.len;rw [List.drop_zero] at h;have h2:=qe xs;unfold tuB at h2;have h3:=HN.out;omega
          subst hm;clear hz hig;(go_wp2_with fail);go_ret;refine ⟨ao,co,rfl,?_,HX.out.only⟩;have h:=HX.out.row;rw [List.drop_zero] at h;exact h.ssv (fun b hb=>by rw [HP.out];exact .inr hb)
        · obtain ⟨q,rfl⟩:∃ q,i=q+1:=⟨i - 1,by omega⟩
          obtain rfl:z=(q:Int):=by omega
          have hlt:q < j:=by omega
          have hlt':(q:Int) < (j:Int):=by omega
          have j0:(0:Int)≤(q:Int):=by omega
          obtain ⟨-,gr,k,nm,ys,nn,bd,els,p,a0,c0,a1,c1,a2,c2,rfl,he,x0,x1,x2,x3,x4,x5,x6,hv0,hv1,hv2⟩:=(HV.out.quiet HX.out.only).elem hlt;have hT1:=bn he;rw [b8] at hT1;have hws:=k8 HWB.out he;unfold wS at hws;obtain ⟨hik,-,-,hwbd,hwels⟩:=hws;obtain ⟨L0,hL0⟩:∃ L,L=ys.length:=⟨_,rfl⟩
          obtain ⟨L1,hL1⟩:∃ L,L=bd.length:=⟨_,rfl⟩
          obtain ⟨L2,hL2⟩:∃ L,L=els.length:=⟨_,rfl⟩
          obtain ⟨sn,hsn⟩:∃ sn,sn=ai nm:=⟨_,rfl⟩
          have hta:=tuO_at he;have KB1:=fun W hV=>IS (ah bd) (by omega) bd (Nat.le_refl _) hwbd W (.slice a1 bd.length c1) (fun b=>B b∧b < w.heap.size) hV;have KB2:=fun W hV=>IS (ah els) (by omega) els (Nat.le_refl _) hwels W (.slice a2 els.length c2) (fun b=>B b∧b < w.heap.size) hV;rw [← hL0] at x2 hv0 hik;rw [← hL1] at x4 hv1 KB1;rw [← hL2] at x5 hv2 KB2;rw [← hsn] at x1;have HKB1:=Hd KB1;have HKB2:=Hd KB2;have HTA:=Hd hta;have HV0:=Hd hv0;have HV1:=Hd hv1;have HV2:=Hd hv2;have HS:=Hd hsn;have hgr:gr < wr.heap.size:=World.block_lt_of_cell? _ _ x0;clear he hL0 hL1 hL2 hsn hv0 hv1 hv2 hT1 hlen hN hwbd hwels hta KB1 KB2 hz hi0;(go_upto_region 11 with (fail));obtain ⟨w1,q9,oA,hb,-⟩:=nb wr (.cells #[.int .i64 k,.string sn,.slice a0 L0 c0,.int .i64 nn,.slice a1 L1 c1,.slice a2 L2 c2,.int .i64 p] 112);rw [← q9];clear q9;obtain ⟨gb,hgb⟩:∃ gb,gb=wr.heap.size:=⟨_,rfl⟩
          rw [← hgb] at hb⊢;have y0:w1.cell? ⟨gb,0,none⟩=some (.int .i64 k):=ab 0 hb
          by_cases h1:k=1
          · subst h1
            have HXN:Hid (GX w w1 ao m co P (aG xs++tuO (xs.drop q))):=Hd (by
              have h:=HTA.out;rw [if_pos (show (St.mk 1 nm ys nn bd els p).kind=1 from rfl),List.append_nil] at h;rw [h]
              exact HX.out.quiet oA)
            clear oA hb hgb HX HTA HKB1 HKB2 x0 x1 x2 x3 x4 x5 x6 hgr;go_wp2_with fail
            go_roundg q
            case measure=>omega
            case rel=>exact ⟨q,m,(q:Int) - 1,ao,co,rfl,by omega,rfl,by omega,rfl,by omega,HXN⟩
          · have hk8:k=2∨k=3∨k=4∨k=5∨k=6∨k=7∨k=8:=by rcases hik with ⟨h,_⟩ | ⟨h,_⟩ | ⟨h,_⟩<;>omega
            have h1':(k == 1)=false:=by simpa using h1
            have HT:Hid (tuO (xs.drop q)=tuO (xs.drop (q+1))++[tuS (St.mk k nm ys nn bd els p)]):=Hd (by
              have h:=HTA.out;rw [if_neg (show ¬ (St.mk k nm ys nn bd els p).kind=1 from h1)] at h
              exact h)
            have hgne:gr≠gb:=by omega
            have hx0:=ae oA x0 (by simp);have HB1:=Hd hb;have HO1:=Hd oA;have HGB:=Hd hgb;clear HTA hik h1 x0 x1 x2 x3 x4 x5 x6 hb oA hgb hgr;(go_upto_region 12 with (fail));rcases hk8 with rfl | rfl | rfl | rfl | rfl | rfl | rfl
            all_goals (first
              | (have ht:tuO (xs.drop q)=tuO (xs.drop (q+1))++[tuS (St.mk 2 nm ys nn bd els p)]:=HT.out
                 clear ht;(go_upto_region 20 with (fail));obtain ⟨kk,hkk⟩:∃ x:Int,x=2:=⟨_,rfl⟩
                 obtain ⟨wX,hwX⟩:∃ W,W=w1:=⟨_,rfl⟩
                 rw [← hwX] at HB1 HO1⊢;rw [← hkk] at HB1;have HBX:=HB1;have HOXX:=HO1;clear hwX HB1 HO1 y0 hx0;have HTS:Hid (tuO (xs.drop q)=tuO (xs.drop (q+1))++[St.mk kk nm ys nn (tuB bd) (tuB els) p]):=Hd (by rw [HT.out,nK,hkk];rfl);clear hkk HT
                 )
              | (have ht:tuO (xs.drop q)=tuO (xs.drop (q+1))++[tuS (St.mk 3 nm ys nn bd els p)]:=HT.out
                 clear ht;have f9:=ac 0 HB1.out;(go_upto_region 14 with (fail));have oz:Only [gb] w1 (w1.setCell ⟨gb,0,none⟩ (.int .i64 4)):=oc;have hb7:(w1.setCell ⟨gb,0,none⟩ (.int .i64 4)).heap[gb]?=some (.cells #[.int .i64 4,.string sn,.slice a0 L0 c0,.int .i64 nn,.slice a1 L1 c1,.slice a2 L2 c2,.int .i64 p] 112 (0,0)):=af (i:=0) _ HB1.out;have hx1:=ae oz hx0 (by simpa using hgne);generalize w1.setCell ⟨gb,0,none⟩ (.int .i64 4)=wX at oz hb7 hx1⊢;have HOXX:=Hd (HO1.out.trans oz (fun x hx=>.inr (by rw [List.mem_singleton.1 hx,HGB.out];exact Nat.le_refl _)));obtain ⟨kk,hkk⟩:∃ x:Int,x=4:=⟨_,rfl⟩
                 rw [← hkk] at hb7;have HBX:=Hd hb7;have HTS:Hid (tuO (xs.drop q)=tuO (xs.drop (q+1))++[St.mk kk nm ys nn (tuB bd) (tuB els) p]):=Hd (by rw [HT.out,nK,hkk];rfl);clear hkk HT;clear oz hb7 f9 y0 hx0 HB1 HO1;(go_upto_region 20 with (fail));clear hx1
                 )
              | (have ht:tuO (xs.drop q)=tuO (xs.drop (q+1))++[tuS (St.mk 4 nm ys nn bd els p)]:=HT.out
                 clear ht;have f9:=ac 0 HB1.out;(go_upto_region 16 with (fail));have oz:Only [gb] w1 (w1.setCell ⟨gb,0,none⟩ (.int .i64 3)):=oc;have hb7:(w1.setCell ⟨gb,0,none⟩ (.int .i64 3)).heap[gb]?=some (.cells #[.int .i64 3,.string sn,.slice a0 L0 c0,.int .i64 nn,.slice a1 L1 c1,.slice a2 L2 c2,.int .i64 p] 112 (0,0)):=af (i:=0) _ HB1.out;have hx1:=ae oz hx0 (by simpa using hgne);generalize w1.setCell ⟨gb,0,none⟩ (.int .i64 3)=wX at oz hb7 hx1⊢;have HOXX:=Hd (HO1.out.trans oz (fun x hx=>.inr (by rw [List.mem_singleton.1 hx,HGB.out];exact Nat.le_refl _)));obtain ⟨kk,hkk⟩:∃ x:Int,x=3:=⟨_,rfl⟩
                 rw [← hkk] at hb7;have HBX:=Hd hb7;have HTS:Hid (tuO (xs.drop q)=tuO (xs.drop (q+1))++[St.mk kk nm ys nn (tuB bd) (tuB els) p]):=Hd (by rw [HT.out,nK,hkk];rfl);clear hkk HT;clear oz hb7 f9 y0 hx0 HB1 HO1;(go_upto_region 20 with (fail));clear hx1
                 )
              | (have ht:tuO (xs.drop q)=tuO (xs.drop (q+1))++[tuS (St.mk 5 nm ys nn bd els p)]:=HT.out
                 clear ht;(go_upto_region 20 with (fail));obtain ⟨kk,hkk⟩:∃ x:Int,x=5:=⟨_,rfl⟩
                 obtain ⟨wX,hwX⟩:∃ W,W=w1:=⟨_,rfl⟩
                 rw [← hwX] at HB1 HO1⊢;rw [← hkk] at HB1;have HBX:=HB1;have HOXX:=HO1;clear hwX HB1 HO1 y0 hx0;have HTS:Hid (tuO (xs.drop q)=tuO (xs.drop (q+1))++[St.mk kk nm ys nn (tuB bd) (tuB els) p]):=Hd (by rw [HT.out,nK,hkk];rfl);clear hkk HT
                 )
              | (have ht:tuO (xs.drop q)=tuO (xs.drop (q+1))++[tuS (St.mk 6 nm ys nn bd els p)]:=HT.out
                 clear ht;(go_upto_region 20 with (fail));obtain ⟨kk,hkk⟩:∃ x:Int,x=6:=⟨_,rfl⟩
                 obtain ⟨wX,hwX⟩:∃ W,W=w1:=⟨_,rfl⟩
                 rw [← hwX] at HB1 HO1⊢;rw [← hkk] at HB1;have HBX:=HB1;have HOXX:=HO1;clear hwX HB1 HO1 y0 hx0;have HTS:Hid (tuO (xs.drop q)=tuO (xs.drop (q+1))++[St.mk kk nm ys nn (tuB bd) (tuB els) p]):=Hd (by rw [HT.out,nK,hkk];rfl);clear hkk HT
                 )
              | (have ht:tuO (xs.drop q)=tuO (xs.drop (q+1))++[tuS (St.mk 7 nm ys nn bd els p)]:=HT.out
                 clear ht;have f9:=ac 0 HB1.out;(go_upto_region 18 with (fail));have oz:Only [gb] w1 (w1.setCell ⟨gb,0,none⟩ (.int .i64 8)):=oc;have hb7:(w1.setCell ⟨gb,0,none⟩ (.int .i64 8)).heap[gb]?=some (.cells #[.int .i64 8,.string sn,.slice a0 L0 c0,.int .i64 nn,.slice a1 L1 c1,.slice a2 L2 c2,.int .i64 p] 112 (0,0)):=af (i:=0) _ HB1.out;have hx1:=ae oz hx0 (by simpa using hgne);generalize w1.setCell ⟨gb,0,none⟩ (.int .i64 8)=wX at oz hb7 hx1⊢;have HOXX:=Hd (HO1.out.trans oz (fun x hx=>.inr (by rw [List.mem_singleton.1 hx,HGB.out];exact Nat.le_refl _)));obtain ⟨kk,hkk⟩:∃ x:Int,x=8:=⟨_,rfl⟩
                 rw [← hkk] at hb7;have HBX:=Hd hb7;have HTS:Hid (tuO (xs.drop q)=tuO (xs.drop (q+1))++[St.mk kk nm ys nn (tuB bd) (tuB els) p]):=Hd (by rw [HT.out,nK,hkk];rfl);clear hkk HT;clear oz hb7 f9 y0 hx0 HB1 HO1;(go_upto_region 20 with (fail));clear hx1
                 )
              | (have ht:tuO (xs.drop q)=tuO (xs.drop (q+1))++[tuS (St.mk 8 nm ys nn bd els p)]:=HT.out
                 clear ht;have f9:=ac 0 HB1.out;(go_upto_region 20 with (fail));have oz:Only [gb] w1 (w1.setCell ⟨gb,0,none⟩ (.int .i64 7)):=oc;have hb7:(w1.setCell ⟨gb,0,none⟩ (.int .i64 7)).heap[gb]?=some (.cells #[.int .i64 7,.string sn,.slice a0 L0 c0,.int .i64 nn,.slice a1 L1 c1,.slice a2 L2 c2,.int .i64 p] 112 (0,0)):=af (i:=0) _ HB1.out;have hx1:=ae oz hx0 (by simpa using hgne);generalize w1.setCell ⟨gb,0,none⟩ (.int .i64 7)=wX at oz hb7 hx1⊢;have HOXX:=Hd (HO1.out.trans oz (fun x hx=>.inr (by rw [List.mem_singleton.1 hx,HGB.out];exact Nat.le_refl _)));obtain ⟨kk,hkk⟩:∃ x:Int,x=7:=⟨_,rfl⟩
                 rw [← hkk] at hb7;have HBX:=Hd hb7;have HTS:Hid (tuO (xs.drop q)=tuO (xs.drop (q+1))++[St.mk kk nm ys nn (tuB bd) (tuB els) p]):=Hd (by rw [HT.out,nK,hkk];rfl);clear hkk HT;clear oz hb7 f9 y0 hx0 HB1 HO1;clear hx1
                 )
              )
            all_goals
              have HGX:=Hd (am HBX.out);have y4:wX.cell? ⟨gb,4,none⟩=some (.slice a1 L1 c1):=ab 4 HBX.out;(go_wp2_with fail);refine (HKB1.out wX (HV1.out.quiet HOXX.out)).mono ?_;rintro en w3 ⟨a5,c5,rfl,hr1,o3⟩;have hb3:=o3.heap HBX.out (by simp);have HO3:=Hd (HOXX.out.trans o3 (by simp));have HZ3:=Hd o3.size;have HR1:=Hd (hr1.kept (B':=fun b=>(B b∧b < w.heap.size)∨wX.heap.size≤b) (Only.refl [] w3) (by simp) (fun b hb=>hb.imp (fun h=>h.1) id));clear y4;have y4:w3.cell? ⟨gb,4,none⟩=some (.slice a1 L1 c1):=ab 4 hb3;have f4:=ac 4 hb3;clear hr1 o3;(go_upto_region 21 with (fail));have oz:Only [gb] w3 (w3.setCell ⟨gb,4,none⟩ (.slice a5 L1 c5)):=oc;have hb4:(w3.setCell ⟨gb,4,none⟩ (.slice a5 L1 c5)).heap[gb]?=some (.cells #[.int .i64 kk,.string sn,.slice a0 L0 c0,.int .i64 nn,.slice a5 L1 c5,.slice a2 L2 c2,.int .i64 p] 112 (0,0)):=af (i:=4) _ hb3;generalize w3.setCell ⟨gb,4,none⟩ (.slice a5 L1 c5)=w4 at oz hb4⊢;have hnq:∀ x∈[gb],¬ ((B x∧x < w.heap.size)∨wX.heap.size≤x):=by
                intro x hx e;rw [List.mem_singleton.1 hx] at e;have h1:=HGX.out;have h2:=HGB.out;have h3:=HX.out.only.size;rcases e with e | e<;>omega
              have HNQ:=Hd hnq;have HO4:=Hd (HO3.out.trans oz (fun x hx=>.inr (by rw [List.mem_singleton.1 hx,HGB.out];exact Nat.le_refl _)));replace HR1:=Hd (HR1.out.kept oz hnq (fun _ h=>h));have HZ4:=Hd (Nat.le_trans HZ3.out oz.size);have HB4:=Hd hb4;have y5:w4.cell? ⟨gb,5,none⟩=some (.slice a2 L2 c2):=ab 5 hb4;clear y4 f4 hb3 oz hb4 hnq HO3 HZ3;(go_wp2_with fail);refine (HKB2.out w4 (HV2.out.quiet HO4.out)).mono ?_;rintro en w5 ⟨a6,c6,rfl,hr2,o5⟩;have hb5:=o5.heap HB4.out (by simp);have HO5:=Hd (HO4.out.trans o5 (by simp));have HR2:=Hd (hr2.kept (B':=fun b=>(B b∧b < w.heap.size)∨wX.heap.size≤b) (Only.refl [] w5) (by simp) (fun b hb=>hb.imp (fun h=>h.1) (fun h=>Nat.le_trans HZ4.out h)));replace HR1:=Hd (HR1.out.quiet o5);clear y5;have y5:w5.cell? ⟨gb,5,none⟩=some (.slice a2 L2 c2):=ab 5 hb5;have f5:=ac 5 hb5;clear hr2 o5 HO4 HZ4 HB4;(go_upto_region 22 with (fail));have oz:Only [gb] w5 (w5.setCell ⟨gb,5,none⟩ (.slice a6 L2 c6)):=oc;have hb6:(w5.setCell ⟨gb,5,none⟩ (.slice a6 L2 c6)).heap[gb]?=some (.cells #[.int .i64 kk,.string sn,.slice a0 L0 c0,.int .i64 nn,.slice a5 L1 c5,.slice a6 L2 c6,.int .i64 p] 112 (0,0)):=af (i:=5) _ hb5;generalize w5.setCell ⟨gb,5,none⟩ (.slice a6 L2 c6)=w6 at oz hb6⊢;have HO6:=Hd (HO5.out.trans oz (fun x hx=>.inr (by rw [List.mem_singleton.1 hx,HGB.out];exact Nat.le_refl _)));replace HR1:=Hd (HR1.out.kept oz HNQ.out (fun _ h=>h));replace HR2:=Hd (HR2.out.kept oz HNQ.out (fun _ h=>h));have y0:w6.cell? ⟨gb,0,none⟩=some (.int .i64 kk):=ab 0 hb6;have y1:w6.cell? ⟨gb,1,none⟩=some (.string sn):=ab 1 hb6;have y2:w6.cell? ⟨gb,2,none⟩=some (.slice a0 L0 c0):=ab 2 hb6;have y3:w6.cell? ⟨gb,3,none⟩=some (.int .i64 nn):=ab 3 hb6;have y4:w6.cell? ⟨gb,4,none⟩=some (.slice a5 L1 c5):=ab 4 hb6;have y6:w6.cell? ⟨gb,6,none⟩=some (.int .i64 p):=ab 6 hb6;clear y5 f5;have y5:w6.cell? ⟨gb,5,none⟩=some (.slice a6 L2 c6):=ab 5 hb6;have HLW:=Hd HX.out.row.lt
              have HSV:Hid (SV w6 (fun b=>(B b∧b < w.heap.size)∨wX.heap.size≤b) (.mk kk nm ys nn (tuB bd) (tuB els) p) [.int .i64 kk,.string sn,.slice a0 L0 c0,.int .i64 nn,.slice a5 L1 c5,.slice a6 L2 c6,.int .i64 p]):=Hd (by
                rw [HS.out]
                exact SV.mk' (HV0.out.kept HO6.out (by simp) (fun b hb=>.inl hb)) HR1.out HR2.out)
              clear oz hb6 hb5 HR1 HR2 HV0 HV1 HV2 HKB1 HKB2 HS HNQ HO5 HBX;have oB:=(Only.refl [] w6).alloc (.cells #[.int .i64 kk,.string sn,.slice a0 L0 c0,.int .i64 nn,.slice a5 L1 c5,.slice a6 L2 c6,.int .i64 p] 112);have hbx:=ag w6 (.cells #[.int .i64 kk,.string sn,.slice a0 L0 c0,.int .i64 nn,.slice a5 L1 c5,.slice a6 L2 c6,.int .i64 p] 112);obtain ⟨css,hown,hcl,hcs⟩:=((HX.out.quiet HO6.out).quiet oB).row;rw [← (HX.out.quiet HO6.out).len] at hown;have HOWN:=Hd hown;have HCS:=Hd (And.intro hcl hcs);have HOX:=Hd ((HX.out.quiet HO6.out).quiet oB).only;have HLB:=Hd (HX.out.quiet HO6.out).row.lt;have HSZ:=Hd (show w.heap.size≤(w6.alloc (.cells #[.int .i64 kk,.string sn,.slice a0 L0 c0,.int .i64 nn,.slice a5 L1 c5,.slice a6 L2 c6,.int .i64 p] 112)).heap.size from ((HX.out.quiet HO6.out).quiet oB).only.size)
              have HC:=Hd (show ∀ (j:Nat) (u:Value),([.int .i64 kk,.string sn,.slice a0 L0 c0,.int .i64 nn,.slice a5 L1 c5,.slice a6 L2 c6,.int .i64 p]:List Value)[j]?=some u→(w6.alloc (.cells #[.int .i64 kk,.string sn,.slice a0 L0 c0,.int .i64 nn,.slice a5 L1 c5,.slice a6 L2 c6,.int .i64 p] 112)).cell? ⟨w6.heap.size,j,none⟩=some u from fun j u hj=>by
                rw [ab _ hbx]
                simpa using hj)
              have HLN:=Hd (HX.out.quiet HO6.out).len;clear hown hcl hcs hbx oB
              go_wp2_with (
                refine b7 rfl (.tmp 76) (.tmp 78) rfl w.heap.size _ m css.flatten (by rfl) HOWN.out w6.heap.size 1 (by rfl) kk nn p sn a0 a5 a6 L0 L1 L2 c0 c5 c6 HC.out (by omega) HSZ.out ?_;intro a8 c8 w7 how7 ho7 hb7;have HW7:=Hd (And.intro how7 (And.intro ho7 hb7))
                clear how7 ho7 hb7)
              clear y0 y1 y2 y3 y4 y5 y6
              go_roundg q
              case measure=>omega
              case rel=>
                obtain ⟨how7,ho7,hb7⟩:=HW7.out;refine ⟨q,m+1,(q:Int) - 1,a8,c8,rfl,by omega,rfl,by omega,rfl,by omega,Hd ?_⟩;rw [HTS.out,← List.append_assoc];refine GX.snoc HOX.out HLN.out HCS.out.1 HCS.out.2 (SV.kept ((Only.refl [] w6).alloc _) (by simp) (fun b hb=>?_) _ _ (SV.lt _ _ HSV.out)) (fun g hg=>(HLB.out g hg).1) how7 ho7 hb7;have h1:=HX.out.only.size;have h2:=HO6.out.size;have h3:w6.heap.size < (w6.alloc (.cells #[.int .i64 kk,.string sn,.slice a0 L0 c0,.int .i64 nn,.slice a5 L1 c5,.slice a6 L2 c6,.int .i64 p] 112)).heap.size:=am (ag _ _);have h4:=HGX.out;have h5:=HGB.out;refine ⟨by rw [HP.out];exact hb.1.imp id (fun h=>by omega),by omega,fun e=>?_⟩;have h6:=HLW.out b e;rcases hb.1 with h | h<;>omega
theorem tL (N:Nat) (hN:N≤500000):RbP N:=by
 induction N using Nat.strongRecOn with
 | _ N ih=>exact qj N hN (fun M hM=>ih M hM (by omega))
theorem ko (tmps:Array Value) (w:World) (g:Nat) (v0 v1 v2 v3 v4 ev:Value) (h2:tmps.getD 2 undef=.pointer (some ⟨g,0,none⟩)) (h3:tmps.getD 3 undef=ev) (h:w.heap[g]?=some (.cells #[v0,v1,v2,v3,v4] 27 (0,0))) :
  (results Tryz.f23 tmps).run Tryz.prog w=.ok (.tuple #[.agg #[v0,v1,v2,v3,v4],ev]) w:=by
 have c0:w.cell? ⟨g,0,none⟩=some v0:=ab 0 h;have c1:w.cell? ⟨g,1,none⟩=some v1:=ab 1 h;have c2:w.cell? ⟨g,2,none⟩=some v2:=ab 2 h;have c3:w.cell? ⟨g,3,none⟩=some v3:=ab 3 h;have c4:w.cell? ⟨g,4,none⟩=some v4:=ab 4 h;have hl:(loadVar 27 ⟨g,0,none⟩).run Tryz.prog w=.ok (.agg #[v0,v1,v2,v3,v4]) w:=by
  clear h;simp [go_sem,c0,c1,c2,c3,c4]
 have h2':tmps[2]?.getD undef=.pointer (some ⟨g,0,none⟩):=by simpa using h2
 have h3':tmps[3]?.getD undef=ev:=by simpa using h3
 simp [results,Tryz.results23,asAddr,h2',h3',hl]
def TrPost (w:World) (B:Nat→Prop) (d:Df) (e:Ending) (w':World):Prop:=
 ∃ (s:ByteArray) (a1 a2 a3 a4:Option Addr) (l1 l2 l3 l4 c1 c2 c3 c4:Nat),e=.returned (.tuple #[.agg #[.string s,.slice a1 l1 c1,.slice a2 l2 c2,.slice a3 l3 c3,.slice a4 l4 c4],.int .i64 (if okT d=true then 0 else 13)])∧
  DV w' (fun b=>B b∨w.heap.size≤b) (if okT d=true then mu d else ⟨[],[],[],[],[]⟩) [.string s,.slice a1 l1 c1,.slice a2 l2 c2,.slice a3 l3 c3,.slice a4 l4 c4]∧Only [] w w'
theorem xz {w:World} {B:Nat→Prop} {d:Df} {cs:List Value} (hd:DV w B d cs) (hw:Whole d) (hp:pB d.body):Calls Tryz.prog 23 #[.agg cs.toArray] w (TrPost w B d):=by
 obtain ⟨v1,v2,v3,v4,rfl,hv1,hv2,hv3,hv4⟩:=hd.lt;obtain ⟨a1,c1,rfl,-⟩:=id hv1;obtain ⟨a2,c2,rfl,-⟩:=id hv2;obtain ⟨a3,c3,rfl,-⟩:=id hv3;obtain ⟨a4,c4,rfl,-⟩:=id hv4;obtain ⟨sn,hsn⟩:∃ sn,sn=ai d.name:=⟨_,rfl⟩
 obtain ⟨L1,hL1⟩:∃ L,L=d.params.length:=⟨_,rfl⟩
 obtain ⟨L2,hL2⟩:∃ L,L=d.needs.length:=⟨_,rfl⟩
 obtain ⟨L3,hL3⟩:∃ L,L=d.body.length:=⟨_,rfl⟩
 obtain ⟨L4,hL4⟩:∃ L,L=d.give.length:=⟨_,rfl⟩
 rw [← hsn,← hL1,← hL2,← hL3,← hL4] at hd⊢;rw [← hL1] at hv1;rw [← hL3] at hv3;have HD:=Hd hd;have HV1:=Hd hv1;have HV3:=Hd hv3;have HWH:=Hd hw;have HP:=Hd hp;have HS:=Hd hsn;have HL1:=Hd hL1;have HL3:=Hd hL3;clear hd hv1 hv2 hv3 hv4 hw hp hsn hL1 hL2 hL3 hL4
 go_enter Tryz.func23,Tryz.ntmps23
 go_upto_region 1 with (fail)
 obtain ⟨w2,hw2⟩:∃ w2,w2=(w.alloc (.cells #[.string sn,.slice a1 L1 c1,.slice a2 L2 c2,.slice a3 L3 c3,.slice a4 L4 c4] 27)).alloc (.cells #[.string ⟨#[]⟩,.slice none 0 0,.slice none 0 0,.slice none 0 0,.slice none 0 0] 27):=⟨_,rfl⟩
 have s1:(w.alloc (.cells #[.string sn,.slice a1 L1 c1,.slice a2 L2 c2,.slice a3 L3 c3,.slice a4 L4 c4] 27)).heap.size=w.heap.size+1:=Array.size_push _;have hA:w2.heap[w.heap.size]?=some (.cells #[.string sn,.slice a1 L1 c1,.slice a2 L2 c2,.slice a3 L3 c3,.slice a4 L4 c4] 27 (0,0)):=by rw [hw2];exact aq _ (ag w _)
 have hZ:w2.heap[w.heap.size+1]?=some (.cells #[.string ⟨#[]⟩,.slice none 0 0,.slice none 0 0,.slice none 0 0,.slice none 0 0] 27 (0,0)):=by
  have:=ag (w.alloc (.cells #[.string sn,.slice a1 L1 c1,.slice a2 L2 c2,.slice a3 L3 c3,.slice a4 L4 c4] 27)) (.cells #[.string ⟨#[]⟩,.slice none 0 0,.slice none 0 0,.slice none 0 0,.slice none 0 0] 27);rw [s1] at this;rw [hw2];exact this
 have o2:Only [] w w2:=by rw [hw2];exact ((Only.refl [] w).alloc _).alloc _
 rw [← hw2];clear s1 hw2;obtain ⟨ga,hga⟩:∃ g,g=w.heap.size:=⟨_,rfl⟩
 obtain ⟨gz,hgz⟩:∃ g,g=w.heap.size+1:=⟨_,rfl⟩
 rw [← hgz] at hZ⊢;rw [← hga] at hA⊢;have HA:=Hd hA;have HZ:=Hd hZ;have HO:=Hd o2;have HG:=Hd (And.intro hga hgz);replace HD:=Hd (HD.out.kept o2 (by simp) (fun _ h=>h));replace HV1:=Hd (HV1.out.kept o2 (by simp) (fun _ h=>h));replace HV3:=Hd (HV3.out.quiet o2);have K1:=tK HD.out HWH.out HP.out;have y0:w2.cell? ⟨ga,0,none⟩=some (.string sn):=ab 0 hA;have y1:w2.cell? ⟨ga,1,none⟩=some (.slice a1 L1 c1):=ab 1 hA;have y2:w2.cell? ⟨ga,2,none⟩=some (.slice a2 L2 c2):=ab 2 hA;have y3:w2.cell? ⟨ga,3,none⟩=some (.slice a3 L3 c3):=ab 3 hA;have y4:w2.cell? ⟨ga,4,none⟩=some (.slice a4 L4 c4):=ab 4 hA;clear hA hZ o2 hga hgz;go_wp2_with fail
 refine K1.mono ?_;rintro e w3 ⟨rfl,o3⟩;replace HO:=Hd (HO.out.trans o3 (by simp));replace HA:=Hd (o3.heap HA.out (by simp));replace HZ:=Hd (o3.heap HZ.out (by simp));replace HV1:=Hd (HV1.out.kept o3 (by simp) (fun _ h=>h));replace HV3:=Hd (HV3.out.quiet o3);obtain ⟨i0,ci0,pi0,hi0⟩:∃ i c p,mn d=(i,c,p):=⟨_,_,_,rfl⟩
 have hok:okT d=(ci0 == 0 && i0.turns):=by unfold okT;rw [hi0]
 rw [hi0];obtain ⟨im,ist,inn,itu⟩:=i0;unfold infoV;dsimp only at hok⊢;have HOK:=Hd hok;obtain ⟨st',hst⟩:∃ x:Int,x=ist:=⟨_,rfl⟩
 obtain ⟨nm',hnm⟩:∃ x:Int,x=inn:=⟨_,rfl⟩
 rw [← hst,← hnm];clear K1 o3 hi0 hst hnm y0 y1 y2 y3 y4 hok HD;go_upto_region 2 with (fail)
 obtain ⟨w4,q9,o4,h4,-⟩:=nb w3 (.cells #[.int .i64 im,.int .i64 st',.int .i64 nm',.bool itu] 64);rw [← q9];clear q9;obtain ⟨gi,hgi⟩:∃ g,g=w3.heap.size:=⟨_,rfl⟩
 rw [← hgi] at h4⊢;replace HO:=Hd (HO.out.trans o4 (by simp));replace HA:=Hd (o4.heap HA.out (by simp));replace HZ:=Hd (o4.heap HZ.out (by simp));replace HV1:=Hd (HV1.out.kept o4 (by simp) (fun _ h=>h));replace HV3:=Hd (HV3.out.quiet o4);have x3:w4.cell? ⟨gi,3,none⟩=some (.bool itu):=ab 3 h4;clear o4 h4 hgi;have z0:w4.cell? ⟨gz,0,none⟩=some (.string ⟨#[]⟩):=ab 0 HZ.out;have z1:w4.cell? ⟨gz,1,none⟩=some (.slice none 0 0):=ab 1 HZ.out;have z2:w4.cell? ⟨gz,2,none⟩=some (.slice none 0 0):=ab 2 HZ.out;have z3:w4.cell? ⟨gz,3,none⟩=some (.slice none 0 0):=ab 3 HZ.out;have z4:w4.cell? ⟨gz,4,none⟩=some (.slice none 0 0):=ab 4 HZ.out;have fz0:=ac 0 HZ.out;have fz1:=ac 1 HZ.out;have fz2:=ac 2 HZ.out;have fz3:=ac 3 HZ.out;have fz4:=ac 4 HZ.out
 by_cases hc0:ci0=0
 ·have hc1:(ci0 != 0)=false:=by simp [hc0]
  cases itu with
  | false=>
   have HNO:Hid (okT d=false):=Hd (by rw [HOK.out];simp);clear HOK hc0;(go_wp2_with fail);(try simp only [Exit.inBlock,Exit.then]);refine bodyPost_ret (ko _ _ gz _ _ _ _ _ (.int .i64 13) rfl rfl (ax HZ.out _ _ _ _ _)) rfl ?_;refine ⟨⟨#[]⟩,none,none,none,none,0,0,0,0,0,0,0,0,by rw [HNO.out];rfl,by rw [HNO.out];exact xl _ _,HO.out.trans (show Only [gz] w4 _ from (((((Only.refl _ _).setCell (.inl (by simp)) _).setCell (.inl (by simp)) _).setCell (.inl (by simp)) _).setCell (.inl (by simp)) _).setCell (.inl (by simp)) _) (fun k hk=>.inr (by rw [List.mem_singleton.1 hk,HG.out.2];omega))⟩
  | true=>
   have HYES:Hid (okT d=true):=Hd (by rw [HOK.out,hc0];rfl);clear HOK hc0;(go_upto_region 4 with (fail));have oD:Only [] w4 w4.drew:=(Only.refl [] w4).drew;have hA5:=oD.heap HA.out (by simp);have hZ5:=oD.heap HZ.out (by simp);replace HO:=Hd (HO.out.trans oD (by simp));replace HV1:=Hd (HV1.out.kept oD (by simp) (fun _ h=>h));replace HV3:=Hd (HV3.out.quiet oD);clear x3 z0 z1 z2 z3 z4 fz0 fz1 fz2 fz3 fz4 HA HZ oD;refine wp_region_held_drew (S:=fun w'=>w'.cell? ⟨ga,0,none⟩=some (.string sn)∧w'.cell? ⟨ga,1,none⟩=some (.slice a1 L1 c1)∧w'.cell? ⟨ga,3,none⟩=some (.slice a3 L3 c3)) (by kernel_rfl) ⟨ab 0 hA5,ab 1 hA5,ab 3 hA5⟩ (fun hH=>?_);generalize w4.drew=w5 at HO HV1 HV3 hA5 hZ5 hH⊢;have HA:=Hd hA5;have HZ:=Hd hZ5;have HZL:=Hd (am hZ5);clear hA5 hZ5;refine tk 0 hH ?_;refine tk 1 hH ?_;refine tk 2 hH ?_;refine tk 3 hH ?_;refine tk 4 hH ?_;refine tk 5 hH ?_;have hbs:=HWH.out.size;have KB:=fun W hV=>tL 500000 (Nat.le_refl _) d.body (by omega) HWH.out.body W (.slice a3 d.body.length c3) (fun b=>B b∧b < w.heap.size) hV;rw [← HL3.out] at KB;have HKB:=Hd KB;clear hbs KB;refine rd 6 (fun K hK=>?_);go_simp;refine (HKB.out w5 HV3.out).mono ?_;rintro e w7 ⟨a6,c6,rfl,hs6,o7⟩;have hA7:=o7.heap HA.out (by simp);have HZ7:=Hd (o7.heap HZ.out (by simp));have HB7:=Hd (hs6.kept (B':=fun q=>(B q∧q < w.heap.size)∨w5.heap.size≤q) (Only.refl [] w7) (by simp) (fun q hq=>hq.imp (fun h=>h.1) id));replace HO:=Hd (HO.out.trans o7 (by simp));replace HV1:=Hd (HV1.out.kept o7 (by simp) (fun _ h=>h));refine hK.out _ _ ⟨ab 0 hA7,ab 1 hA7,ab 3 hA7⟩ (fun hH=>?_);have HA7:=Hd hA7;clear hK K HKB hs6 o7 hA7 HV3 HZ HA;refine tk 7 hH ?_;have z0:w7.cell? ⟨gz,0,none⟩=some (.string ⟨#[]⟩):=ab 0 HZ7.out;have z1:w7.cell? ⟨gz,1,none⟩=some (.slice none 0 0):=ab 1 HZ7.out;have z2:w7.cell? ⟨gz,2,none⟩=some (.slice none 0 0):=ab 2 HZ7.out;have z3:w7.cell? ⟨gz,3,none⟩=some (.slice none 0 0):=ab 3 HZ7.out;have z4:w7.cell? ⟨gz,4,none⟩=some (.slice none 0 0):=ab 4 HZ7.out;have fz0:=ac 0 HZ7.out;have fz1:=ac 1 HZ7.out;have fz2:=ac 2 HZ7.out;have fz3:=ac 3 HZ7.out;have fz4:=ac 4 HZ7.out;clear hH;refine rd 8 (fun K hK=>?_);go_simp;have oz:Only [gz] w7 (((((w7.setCell ⟨gz,0,none⟩ (.string sn)).setCell ⟨gz,1,none⟩ (.slice a1 L1 c1)).setCell ⟨gz,2,none⟩ (.slice none 0 0)).setCell ⟨gz,3,none⟩ (.slice a6 L3 c6)).setCell ⟨gz,4,none⟩ (.slice none 0 0)):=oc;have hz:=ax HZ7.out (.string sn) (.slice a1 L1 c1) (.slice none 0 0) (.slice a6 L3 c6) (.slice none 0 0);have hgne:ga≠gz:=by rw [HG.out.1,HG.out.2];omega
   have hA8:=oz.heap HA7.out (by simpa using hgne);generalize ((((w7.setCell ⟨gz,0,none⟩ (.string sn)).setCell ⟨gz,1,none⟩ (.slice a1 L1 c1)).setCell ⟨gz,2,none⟩ (.slice none 0 0)).setCell ⟨gz,3,none⟩ (.slice a6 L3 c6)).setCell ⟨gz,4,none⟩ (.slice none 0 0)=w8 at oz hz hA8⊢;have HOZ:=Hd oz;have HZ8:=Hd hz;refine hK.out _ _ ⟨ab 0 hA8,ab 1 hA8,ab 3 hA8⟩ (fun hH=>?_);clear hK K hz hA8 oz z0 z1 z2 z3 z4 fz0 fz1 fz2 fz3 fz4;refine tk 9 hH ?_;refine wpAnyH_done (by kernel_rfl) ?_ _;clear hH;(go_wp2_with fail);(try simp only [Exit.inBlock,Exit.then]);refine bodyPost_ret (ko _ _ gz _ _ _ _ _ (.int .i64 0) rfl rfl HZ8.out) rfl ?_;have hzl:=HZL.out;have hgz:=HG.out.2;have hnz:∀ q∈[gz],¬ (B q∧q < w.heap.size):=fun q hq e=>by
    rw [List.mem_singleton.1 hq] at e;omega
   have hnz2:∀ q∈[gz],¬ ((B q∧q < w.heap.size)∨w5.heap.size≤q):=fun q hq e=>by
    rw [List.mem_singleton.1 hq] at e;omega
   refine ⟨sn,a1,none,a6,none,L1,0,L3,0,c1,0,c6,0,by rw [HYES.out];rfl,?_,HO.out.trans HOZ.out (fun k hk=>.inr (by rw [List.mem_singleton.1 hk,HG.out.2];omega))⟩;rw [HYES.out];refine ⟨_,_,_,_,by rw [HS.out];rfl,?_,EsV.nil _ _,?_,EsV.nil _ _⟩
   ·exact HV1.out.kept HOZ.out hnz (fun q hq=>.inl hq.1)
   ·exact HB7.out.kept HOZ.out hnz2 (fun q hq=>hq.imp (fun h=>h.1) (fun h=>by omega))
 ·have hc1:(ci0 != 0)=true:=by simpa using hc0
  have HNO:Hid (okT d=false):=Hd (by
   rw [HOK.out];have:(ci0 == 0)=false:=by simpa using hc0
   rw [this]
   rfl)
  clear HOK hc0;go_wp2_with fail
  (try simp only [Exit.inBlock,Exit.then]);refine bodyPost_ret (ko _ _ gz _ _ _ _ _ (.int .i64 13) rfl rfl (ax HZ.out _ _ _ _ _)) rfl ?_;refine ⟨⟨#[]⟩,none,none,none,none,0,0,0,0,0,0,0,0,by rw [HNO.out];rfl,by rw [HNO.out];exact xl _ _,HO.out.trans (show Only [gz] w4 _ from (((((Only.refl _ _).setCell (.inl (by simp)) _).setCell (.inl (by simp)) _).setCell (.inl (by simp)) _).setCell (.inl (by simp)) _).setCell (.inl (by simp)) _) (fun k hk=>.inr (by rw [List.mem_singleton.1 hk,HG.out.2];omega))⟩
end Go.Proofs.YtheanmadognhbaaGreatDoor
