import Derived.Test.YtiaeagpepfmfgaaZcq
import Derived.Test.YtiaeagpepfmfgaaGbq
import Derived.Test.YtiaeagpepfmfgaaKcq
import Derived.ChangeMaps5
namespace Go.Proofs.Ytiaeagpepfmfgaa
open Go.RowKit Go.Maps
set_option linter.unusedSimpArgs false
set_option linter.unusedVariables false
theorem DV.parts {w:World} {B:Nat→Prop} {d:Df} {u v1 v2 v3 v4:Value} (h:DV w B d [u,v1,v2,v3,v4]):NmV w B v1 d.params∧EsV w B v2 d.needs∧SsV w B v3 d.body∧EsV w B v4 d.give:=by
 obtain ⟨x1,x2,x3,x4,e,h1,h2,h3,h4⟩:=h
 cases e
 exact ⟨h1,h2,h3,h4⟩
theorem NmV.nth {w:World} {B:Nat→Prop} {a:Option Addr} {n c j:Nat} {l:List Sec} {s:Sec} (h:NmV w B (.slice a n c) l) (hj:l[j]?=some s):∃ g,a=some ⟨g,0,none⟩∧B g∧w.cell? ⟨g,j,none⟩=some (.string (strOf s)):=by
 obtain ⟨a',cap,e,-,hx⟩:=h
 cases e
 rcases hx with hx | ⟨g,h1,h2,h3⟩
 ·rw [hx] at hj;simp at hj
 ·exact ⟨g,h1,h2,h3 j s hj⟩
theorem EsV.nth {w:World} {B:Nat→Prop} {a:Option Addr} {n c j:Nat} {l:List E} {s:E} (h:EsV w B (.slice a n c) l) (hj:l[j]?=some s):∃ g,a=some ⟨g,0,none⟩∧B g∧EsO w B g 0 l:=by
 obtain ⟨a',cap,e,-,hx⟩:=h
 cases e
 rcases hx with hx | ⟨g,h1,h2,h3⟩
 ·rw [hx] at hj;simp at hj
 ·exact ⟨g,h1,h2,EsAt.eso l 0 0 rfl h3⟩
theorem IntsV.nth {w:World} {a:Option Addr} {n c j:Nat} {l:List Int} {z:Int} (h:IntsV w (.slice a n c) l) (hj:l[j]?=some z):n64 z∧∃ b off,a=some ⟨b,off,none⟩∧b < w.heap.size∧w.cell? ⟨b,off+j,none⟩=some (.int .i64 z):=by
 obtain ⟨a',cap,e,hx⟩:=h
 cases e
 obtain ⟨haw,b,off,h1,h2⟩:=hx j z hj
 refine ⟨?_,b,off,h1,World.block_lt_of_cell? _ _ h2,h2⟩
 simp only [Lit.wf,Bool.and_eq_true,decide_eq_true_eq] at haw
 exact haw
theorem sizeL_ge:∀ xs:List E,xs.length≤sizeL xs
 | []=>by simp
 | x :: xs=>by
  have:=sizeL_ge xs
  have h1:1≤sizeE x:=by cases x;unfold sizeE;omega
  rw [sizeL_cons,List.length_cons]
  omega
theorem miss_len:∀ (L:List Sec) (m:Nms),miss L m≤L.length
 | [],_=>Nat.le_refl _
 | z :: l,m=>by
  have:=miss_len l m
  unfold miss
  rw [List.length_cons]
  split<;>omega
set_option maxRecDepth 100000 in
set_option maxHeartbeats 16000000 in
theorem run_any {w:World} {B:Nat→Prop} {d:Df} {cs:List Value} {n:Int} {c l:List Int} {v:Value} (hd:DV w B d cs) (hw:Whole d) (hp:pB d.body) (hg:Good d) (hc:CW c) (hv:IntsV w v l) (hl:l.length≤maxLen) :
    Calls Try.prog 12 #[.agg cs.toArray,.agg (ivA (n :: c)),v] w (RunPost w (runP d n c l)):=by
  obtain ⟨v1,v2,v3,v4,rfl,hv1,hv2,hv3,hv4⟩:=id hd
  obtain ⟨a1,c1,rfl,-⟩:=hv1
  obtain ⟨a2,c2,rfl,-⟩:=hv2
  obtain ⟨a3,c3,rfl,-⟩:=hv3
  obtain ⟨a4,c4,rfl,-⟩:=hv4
  obtain ⟨a0,c0,rfl,-⟩:=id hv
  have HV:=Lib.hid hv
  have HD:=Lib.hid hd.lt
  have HC:=Lib.hid hc
  obtain ⟨R,hR⟩:∃ R,R=runP d n c l:=⟨_,rfl⟩
  rw [← hR]
  unfold runP at hR
  have HR:=Lib.hid hR
  obtain ⟨sn,hsn⟩:∃ sn,sn=strOf d.name:=⟨_,rfl⟩
  obtain ⟨L0,hL0⟩:∃ L,L=l.length:=⟨_,rfl⟩
  obtain ⟨L1,hL1⟩:∃ L,L=d.params.length:=⟨_,rfl⟩
  obtain ⟨L2,hL2⟩:∃ L,L=d.needs.length:=⟨_,rfl⟩
  obtain ⟨L3,hL3⟩:∃ L,L=d.body.length:=⟨_,rfl⟩
  obtain ⟨L4,hL4⟩:∃ L,L=d.give.length:=⟨_,rfl⟩
  rw [← hsn,← hL1,← hL2,← hL3,← hL4] at HD
  rw [← hsn,← hL0,← hL1,← hL2,← hL3,← hL4]
  have HPT:=Lib.hid HD.out.parts
  have HL0:=Lib.hid hL0
  have HL1:=Lib.hid hL1
  have HL2:=Lib.hid hL2
  have HL4:=Lib.hid hL4
  have HWH:=Lib.hid hw
  have HP:=Lib.hid hp
  have HG:=Lib.hid hg
  have h60:=hc.len
  rw [← hL0] at hl
  unfold maxLen at hl
  have H60:=Lib.hid h60
  have H61:=Lib.hid (show (n :: c).length=61 by rw [List.length_cons,h60])
  clear hd hv hc hw hp hg hR hsn hL0 hL1 hL2 hL3 hL4 h60
  go_enter Try.func12,Try.ntmps12
  have T1:=trivial
  have T2:=trivial
  have T3:=trivial
  go_upto_region 1 with (first
    | (clear T1
       refine wpList_box_page rfl _ rfl (n :: c) (by rfl) ?_
       intro w1 gp hbp hgp hop
       have HBP:=Lib.hid hbp
       have HGP:=Lib.hid hgp
       have HOP:=Lib.hid hop
       clear hbp hgp hop)
    | (clear T2
       refine wpList_new_page rfl rfl ?_
       intro w2 gr hbr hgr hor
       have HBR:=Lib.hid hbr
       have HGR:=Lib.hid hgr
       have HOR:=Lib.hid hor
       clear hbr hgr hor))
  have oA:Only [] w (w.alloc (.cells #[.string sn,.slice a1 L1 c1,.slice a2 L2 c2,.slice a3 L3 c3,.slice a4 L4 c4] 30)):=(Only.refl _ _).alloc _
  have hA:=heap_new w (.cells #[.string sn,.slice a1 L1 c1,.slice a2 L2 c2,.slice a3 L3 c3,.slice a4 L4 c4] 30)
  have hsA:(w.alloc (.cells #[.string sn,.slice a1 L1 c1,.slice a2 L2 c2,.slice a3 L3 c3,.slice a4 L4 c4] 30)).heap.size=w.heap.size+1:=Array.size_push _
  have hgp:=HGP.out
  rw [hsA] at hgp
  have hgr:gp < gr:=by have:=HBP.out.lt;have:=HGR.out;omega
  have HO:=Lib.hid ((oA.trans HOP.out (by simp)).trans HOR.out (by simp))
  have HY:=Lib.hid (HOR.out.heap (HOP.out.heap hA (by simp)) (by simp))
  have HPG:=Lib.hid (HBP.out.kept HOR.out (by simp))
  clear oA hA hsA HGP HOP HOR HGR HBP
  have hD2:=HD.out.kept HO.out (by simp) (fun _ h=>h)
  have K1:=check_any hD2 HWH.out HP.out
  have y0:w2.cell? ⟨w.heap.size,0,none⟩=some (.string sn):=cell_at 0 HY.out
  have y1:w2.cell? ⟨w.heap.size,1,none⟩=some (.slice a1 L1 c1):=cell_at 1 HY.out
  have y2:w2.cell? ⟨w.heap.size,2,none⟩=some (.slice a2 L2 c2):=cell_at 2 HY.out
  have y3:w2.cell? ⟨w.heap.size,3,none⟩=some (.slice a3 L3 c3):=cell_at 3 HY.out
  have y4:w2.cell? ⟨w.heap.size,4,none⟩=some (.slice a4 L4 c4):=cell_at 4 HY.out
  clear hD2
  go_wp2_with fail
  refine K1.mono ?_
  rintro e w3 ⟨ev,rfl,hfz,o3⟩
  replace HO:=Lib.hid (HO.out.trans o3 (by simp))
  replace HY:=Lib.hid (o3.heap HY.out (by simp))
  replace HPG:=Lib.hid (HPG.out.kept o3 (by simp))
  replace HBR:=Lib.hid (HBR.out.kept o3 (by simp))
  have HFZ:=Lib.hid hfz
  obtain ⟨i0,ci0,pi0,hi0⟩:∃ i c p,chkD d=(i,c,p):=⟨_,_,_,rfl⟩
  rw [hi0]
  obtain ⟨im,ist,inn,itu⟩:=i0
  unfold infoV
  dsimp only
  obtain ⟨st',hst⟩:∃ x:Int,x=ist:=⟨_,rfl⟩
  obtain ⟨nm',hnm⟩:∃ x:Int,x=inn:=⟨_,rfl⟩
  rw [← hst,← hnm]
  clear K1 o3 hfz hi0 hst hnm y0 y1 y2 y3 y4
  go_upto_region 2 with (fail)
  have o4:=(Only.refl [] w3).alloc (.cells #[.int .i64 im,.int .i64 st',.int .i64 nm',.bool itu] 47)
  generalize w3.alloc (.cells #[.int .i64 im,.int .i64 st',.int .i64 nm',.bool itu] 47)=w4 at o4⊢
  replace HO:=Lib.hid (HO.out.trans o4 (by simp))
  replace HY:=Lib.hid (o4.heap HY.out (by simp))
  replace HPG:=Lib.hid (HPG.out.kept o4 (by simp))
  replace HBR:=Lib.hid (HBR.out.kept o4 (by simp))
  replace HFZ:=Lib.hid (HFZ.out.quiet o4)
  clear o4
  cases hflt:(opS CS.new d).flt with
  | some x=>
    obtain ⟨cc,pp⟩:=x
    have hfz:=HFZ.out
    rw [hflt] at hfz
    obtain ⟨fg,rfl,-⟩:=hfz
    have hRR:=HR.out
    rw [hflt,if_pos (show (some (cc,pp)).isSome=true from rfl)] at hRR
    have HRR:=Lib.hid hRR
    have q1:=neq_flt fg
    clear hRR hflt
    go_wp2_with (first
      | (refine wpList_built rfl [] rfl (0 :: blankP) built_none ?_)
      | (refine wpList_store_page rfl _ _ rfl gr (0 :: blankP) (by rfl) (by rfl) (by rfl) _ HBR.out (by rfl) ?_
         intro w5 hb5 ho5))
    have ho6:=HO.out.trans ho5 (fun k hk=>.inr (by rw [List.mem_singleton.1 hk];omega))
    (try simp only [Exit.inBlock,Exit.then])
    refine bodyPost_ret (results_page3 rfl _ _ gr _ _ _ (by rfl) (by rfl) (by rfl) hb5 (by rfl)) rfl ?_
    unfold RunPost
    rw [HRR.out]
    exact ⟨rfl,ho6⟩
  | none=>
    have hfz:=HFZ.out
    rw [hflt] at hfz
    have hfz:ev=.nilIface:=hfz
    subst hfz
    have hRR:=HR.out
    rw [hflt,if_neg (show ¬ (none:Option (Int×Int)).isSome=true by decide)] at hRR
    replace HR:=Lib.hid hRR
    have HFL:=Lib.hid hflt
    have q1:=neq_nil
    have y0:w4.cell? ⟨w.heap.size,0,none⟩=some (.string sn):=cell_at 0 HY.out
    have y1:w4.cell? ⟨w.heap.size,1,none⟩=some (.slice a1 L1 c1):=cell_at 1 HY.out
    have y2:w4.cell? ⟨w.heap.size,2,none⟩=some (.slice a2 L2 c2):=cell_at 2 HY.out
    have y3:w4.cell? ⟨w.heap.size,3,none⟩=some (.slice a3 L3 c3):=cell_at 3 HY.out
    have y4:w4.cell? ⟨w.heap.size,4,none⟩=some (.slice a4 L4 c4):=cell_at 4 HY.out
    clear hRR hflt HFZ
    go_wp2_with fail
    refine (ccalls_any L1 L0 w4 a1 c1 a0 c0 sn a2 a3 a4 L2 L3 L4 c2 c3 c4).mono ?_
    rintro e w5 ⟨rfl,o5⟩
    replace HO:=Lib.hid (HO.out.trans o5 (by simp))
    replace HY:=Lib.hid (o5.heap HY.out (by simp))
    replace HPG:=Lib.hid (HPG.out.kept o5 (by simp))
    replace HBR:=Lib.hid (HBR.out.kept o5 (by simp))
    clear o5 y0 y1 y2 y3 y4
    by_cases hll:L0=L1
    · rw [if_pos hll]
      have hRR:=HR.out
      rw [if_neg (by rw [← HL0.out,← HL1.out];simpa using hll)] at hRR
      replace HR:=Lib.hid hRR
      have q2:=neq_nil
      clear hRR q1
      have hm2:=@run_makeMap Try.prog 66
      go_upto_region 8 with (first
        | (refine wpList_load_page rfl _ rfl gp (by rfl) _ HPG.out H61.out ?_)
        | (refine wpList_new_run rfl rfl ?_)
        | (refine wpList_built_run rfl _ _ rfl n c w5.heap.size H60.out (by rfl) (by rfl) ?_)
        | (refine wpList_store_run rfl _ _ rfl _ n c w5.heap.size H60.out (by rfl) (by rfl) (heap_new _ _) ?_
           intro w6 hrow ho6))
      have hs1:(w5.alloc (.map #[] 0)).heap.size=w5.heap.size+1:=Array.size_push _
      have hmap:NMap (w5.alloc (.map #[] 0)) w5.heap.size 3 0 0 (fun _=>none):=NMap.made w5 _
      have ob:Only [] w5 (w5.alloc (.map #[] 0)):=(Only.refl _ _).alloc _
      have hr5:gr < w5.heap.size:=HBR.out.lt
      obtain ⟨g,hgd⟩:∃ g,g=(w5.alloc (.map #[] 0)).heap.size:=⟨_,rfl⟩
      obtain ⟨b,hbd⟩:∃ b,b=w5.heap.size:=⟨_,rfl⟩
      rw [← hgd] at hs1 hrow ho6⊢
      rw [← hbd] at hs1 hmap hrow hr5
      have oc:Only [] (w5.alloc (.map #[] 0)) ((w5.alloc (.map #[] 0)).alloc (.cells runZ 68)):=(Only.refl _ _).alloc _
      have hmap6:=(hmap.kept oc (by simp)).kept ho6 (by simp;omega)
      have o56:Only [] w5 w6:=(ob.trans oc (by simp)).trans ho6 (fun k hk=>.inr (by rw [List.mem_singleton.1 hk];omega))
      have hrm:RM w6 g b (namesD d) 960 n ⟨c,lastE []⟩:=⟨hrow,⟨0,hmap6,by have h1:=miss_len (namesD d) (lastE []);have h2:=namesD_len HWH.out;show 0+miss (namesD d) (lastE [])≤960;omega⟩,⟨HC.out,nw_last [] (by simp)⟩,by decide⟩
      replace HO:=Lib.hid (HO.out.trans o56 (by simp))
      replace HY:=Lib.hid (o56.heap HY.out (by simp))
      replace HBR:=Lib.hid (HBR.out.kept o56 (by simp))
      have HRM:=Lib.hid hrm
      have hwgp:w.heap.size < gp:=by omega
      have hgb:b < g:=by omega
      clear hs1 hm2 hrow ho6 hmap ob oc hmap6 o56 hrm hgd hbd q2 HPG hgp HC
      have y1:w6.cell? ⟨w.heap.size,1,none⟩=some (.slice a1 L1 c1):=cell_at 1 HY.out
      go_wp2_with fail
      clear y1
      have hlb:w.heap.size≤b:=by omega
      go_loopw [13,14,42] (fun ia ib ic wr=>∃ j:Nat,j≤L1∧ic=.int .i64 (j:Int)∧Hid (RM wr g b (namesD d) 960 n ⟨c,lastE ((d.params.zip l).take j)⟩)∧Hid (Only [b] w6 wr)) (fun ia ib ic _=>L1 - (intOf ic).toNat)
      case atStart=>exact ⟨0,Nat.zero_le _,rfl,HRM,Lib.hid (Only.refl _ _)⟩
      case round=>
        obtain ⟨j,hjl,rfl,HK,HOb⟩:=hrel
        have hwr:Only [] w wr:=HO.out.trans HOb.out (fun k hk=>.inr (by rw [List.mem_singleton.1 hk];exact hlb))
        have HWR:=Lib.hid hwr
        clear hwr
        by_cases hlt:j < L1
        · have hlt':(j:Int) < (L1:Int):=by omega
          have hlt0:(j:Int) < (L0:Int):=by omega
          have hlt0':j < L0:=by omega
          have j0:(0:Int)≤(j:Int):=by omega
          obtain ⟨pn,hpn⟩:∃ e,d.params[j]?=some e:=⟨_,List.getElem?_eq_getElem (by rw [← HL1.out];exact hlt)⟩
          obtain ⟨az,haz⟩:∃ e,l[j]?=some e:=⟨_,List.getElem?_eq_getElem (by rw [← HL0.out];exact hlt0')⟩
          obtain ⟨gq,rfl,-,hes⟩:=HPT.out.1.nth hpn
          obtain ⟨haz64,bq,offq,rfl,hbqw,hcz⟩:=HV.out.nth haz
          have x0:wr.cell? ⟨gq,j,none⟩=some (.string (strOf pn)):=cell_kept HWR.out hes (by simp)
          have x1:wr.cell? ⟨bq,offq+j,none⟩=some (.int .i64 az):=cell_kept HWR.out hcz (by simp)
          have hpl:pn.length≤65536:=HWH.out.params pn (List.mem_of_getElem? hpn)
          have hpi:pn∈namesD d:=List.mem_append_left _ (List.mem_of_getElem? hpn)
          have hsnoc:lastE ((d.params.zip l).take (j+1))=nput (lastE ((d.params.zip l).take j)) pn az:=by rw [zip_snoc hpn haz,lastE_snoc]
          obtain ⟨sp,hsp⟩:∃ sp,sp=strOf pn:=⟨_,rfl⟩
          rw [← hsp] at x0
          obtain ⟨cnt,hmap,hcnt⟩:=HK.out.names
          have HSP:=Lib.hid hsp
          have HSNO:=Lib.hid hsnoc
          have HMP:=Lib.hid hmap
          have HI:=Lib.hid hpi
          clear hsp hsnoc hmap hpn haz hes hcz hpi
          go_upto_region 11 with (fail)
          have y61:=HK.out.map
          have oD:Only [] wr wr.drew:=(Only.refl [] wr).drew
          refine wp_region_held_drew (S:=fun w'=>w'.cell? ⟨g,61,none⟩=some (.map (some b))∧w'.cell? ⟨bq,offq+j,none⟩=some (.int .i64 az)) (by kernel_rfl) ⟨cell_kept oD y61 (by simp),cell_kept oD x1 (by simp)⟩ (fun hH=>?_)
          have HKD:=Lib.hid (HK.out.quiet oD)
          have HMD:=Lib.hid (HMP.out.kept oD (by simp))
          have HOD:=Lib.hid (HOb.out.trans oD (by simp))
          have HNB:=Lib.hid (show bq≠b by omega)
          clear oD y61 x0 x1
          generalize wr.drew=wd at HKD HMD HOD hH⊢
          refine take_list (i:=0) (v:=?_) rfl (by kernel_rfl) (by kernel_rfl) (by kernel_rfl) (fun _ _ _ h=>h) (Or.inl ⟨by rfl,?_⟩) hH ?_
          rotate_left
          · ((intro w hSw;(try dsimp only at hSw);go_simp);try with_reducible rfl)
          simp only [Act.put,List.setIfInBounds_toArray,List.set_cons_zero,List.set_cons_succ]
          refine take_list (i:=1) (v:=?_) rfl (by kernel_rfl) (by kernel_rfl) (by kernel_rfl) (fun _ _ _ h=>h) (Or.inl ⟨by rfl,?_⟩) hH ?_
          rotate_left
          · ((intro w hSw;(try dsimp only at hSw);go_simp);try with_reducible rfl)
          simp only [Act.put,List.setIfInBounds_toArray,List.set_cons_zero,List.set_cons_succ]
          refine take_list (i:=2) (v:=?_) rfl (by kernel_rfl) (by kernel_rfl) (by kernel_rfl) (fun _ _ _ h=>h) (Or.inl ⟨by rfl,?_⟩) hH ?_
          rotate_left
          · ((intro w hSw;(try dsimp only at hSw);go_simp);try with_reducible rfl)
          simp only [Act.put,List.setIfInBounds_toArray,List.set_cons_zero,List.set_cons_succ]
          refine take_list (i:=3) (v:=?_) rfl (by kernel_rfl) (by kernel_rfl) (by kernel_rfl) (fun _ _ _ h=>h) (Or.inl ⟨by rfl,?_⟩) hH ?_
          rotate_left
          · ((intro w hSw;(try dsimp only at hSw);go_simp);try with_reducible rfl)
          simp only [Act.put,List.setIfInBounds_toArray,List.set_cons_zero,List.set_cons_succ]
          refine take_list (i:=4) (v:=?_) rfl (by kernel_rfl) (by kernel_rfl) (by kernel_rfl) (fun _ _ _ h=>h) (Or.inl ⟨by rfl,?_⟩) hH ?_
          rotate_left
          · ((intro w hSw;(try dsimp only at hSw);go_simp);try with_reducible rfl)
          simp only [Act.put,List.setIfInBounds_toArray,List.set_cons_zero,List.set_cons_succ]
          refine take_list (i:=5) (v:=?_) rfl (by kernel_rfl) (by kernel_rfl) (by kernel_rfl) (fun _ _ _ h=>h) (Or.inl ⟨by rfl,?_⟩) hH ?_
          rotate_left
          · ((intro w hSw;(try dsimp only at hSw);go_simp);try with_reducible rfl)
          simp only [Act.put,List.setIfInBounds_toArray,List.set_cons_zero,List.set_cons_succ]
          refine take_list (i:=6) (v:=?_) rfl (by kernel_rfl) (by kernel_rfl) (by kernel_rfl) (fun _ _ _ h=>h) (Or.inl ⟨by rfl,?_⟩) hH ?_
          rotate_left
          · ((intro w hSw;(try dsimp only at hSw);go_simp);try with_reducible rfl)
          simp only [Act.put,List.setIfInBounds_toArray,List.set_cons_zero,List.set_cons_succ]
          refine wpAnyH_ready (rs:=[7]) (by kernel_rfl) (by simp) ?_
          refine ready_list rfl (fun K hK=>?_)
          refine step_nmap_store (by rfl) (.tmp 48) (.tmp 49) (.tmp 53) (by rfl) Try.underlying66 Try.underlying3 (by rfl) HMD.out (by omega) pn (by rw [← HSP.out];rfl) hpl az (by rfl) (n64_wf haz64) (fun w7 hm7 o7=>?_)
          have hr7:=HKD.out.put HI.out haz64 hcnt hm7 o7
          rw [← HSNO.out] at hr7
          have HR7:=Lib.hid hr7
          have HO7:=Lib.hid (HOD.out.trans o7 (fun k hk=>.inl hk))
          refine hK.out _ _ ⟨cell_kept o7 hH.1 (by simpa using HKD.out.ne.symm),cell_kept o7 hH.2 (by simpa using HNB.out)⟩ (fun hH=>?_)
          clear hK K o7 hm7 hr7
          refine wpAnyH_done (by kernel_rfl) ?_ _
          clear hH
          go_wp2_with fail
          refine ⟨⟨j+1,by omega,by go_num,HR7,HO7⟩,?_⟩
          simp [intOf]
          omega
        · obtain rfl:j=L1:=by omega
          have hrm:=HK.out
          rw [List.take_of_length_le (by rw [List.length_zip,← HL1.out,← HL0.out];omega)] at hrm
          have HRN:=Lib.hid (show RM wr g b (namesD d) 960 n ⟨c,mP d.params l⟩ from hrm)
          have HYr:=Lib.hid (HOb.out.heap HY.out (by simp;omega))
          have HBr:=Lib.hid (HBR.out.kept HOb.out (by simp;omega))
          clear hrm HK HOb HY HBR HRM HO hlt HV
          generalize wr=wa at HWR HRN HYr HBr⊢
          obtain ⟨M,hM⟩:∃ M,M=mP d.params l:=⟨_,rfl⟩
          rw [← hM] at HRN HR
          have hg0:¬ (B g∧g < w.heap.size):=fun h=>by omega
          have hb0:¬ (B b∧b < w.heap.size):=fun h=>by omega
          have hgrw:w.heap.size≤gr:=by omega
          have hL2b:L2≤1000000:=by have:=sizeL_ge d.needs;have:=HWH.out.size;have:=HL2.out;omega
          have y2:wa.cell? ⟨w.heap.size,2,none⟩=some (.slice a2 L2 c2):=cell_at 2 HYr.out
          clear hM
          go_wp2_with fail
          clear y2
          go_loopw [58] (fun ia wq=>∃ j:Nat,j≤L2∧ia=.int .i64 (j:Int)∧Hid (((exVs c M d.needs).take j).any (fun v=>v == 0)=false)∧Hid (Only [] wa wq)) (fun ia _=>L2 - (intOf ia).toNat)
          case atStart=>exact ⟨0,Nat.zero_le _,rfl,Lib.hid (by simp),Lib.hid (Only.refl _ _)⟩
          case round=>
            obtain ⟨j,hjl2,rfl,HA,HQ⟩:=hrel
            generalize wr=wq at HQ⊢
            have HWQ:=Lib.hid (HWR.out.trans HQ.out (by simp))
            by_cases hlt:j < L2
            · have hlt':(j:Int) < (L2:Int):=by omega
              have j0:(0:Int)≤(j:Int):=by omega
              obtain ⟨e,he⟩:∃ e,d.needs[j]?=some e:=⟨_,List.getElem?_eq_getElem (by rw [← HL2.out];exact hlt)⟩
              obtain ⟨gq,rfl,-,hes⟩:=HPT.out.2.1.nth he
              obtain ⟨k1,n1,sn1,b1,l1,d1,p1,hev1,hat1⟩:=hes.at5 he
              have hat:=hat1.kept HWQ.out (by simp)
              have z0:=hat.c0
              have z1:=hat.c1
              have z2:=hat.c2
              have z3:=hat.c3
              have z4:=hat.c4
              have hve:(exVs c M d.needs)[j]?=some (exV c M e):=by rw [exVs_get,he];rfl
              have HE:=Lib.hid (And.intro (wL_mem HWH.out.needs he) (gL_mem HG.out.needs he))
              have HEV:=Lib.hid (hev1.quiet HWQ.out)
              clear hes hat1 hat he hev1
              go_upto_region 16 with (fail)
              have o8:Only [] wq (wq.alloc (.cells #[.int .i64 k1,.int .i64 n1,.string sn1,.slice b1 l1 d1,.int .i64 p1] 70)):=(Only.refl _ _).alloc _
              have h8:=heap_new wq (.cells #[.int .i64 k1,.int .i64 n1,.string sn1,.slice b1 l1 d1,.int .i64 p1] 70)
              generalize wq.alloc (.cells #[.int .i64 k1,.int .i64 n1,.string sn1,.slice b1 l1 d1,.int .i64 p1] 70)=w8 at o8 h8⊢
              have HQ8:=Lib.hid (HQ.out.trans o8 (by simp))
              have KX:=pexpr_any (HRN.out.quiet HQ8.out) HE.out.1 HE.out.2 (HEV.out.quiet o8)
              have y0:w8.cell? ⟨wq.heap.size,0,none⟩=some (.int .i64 k1):=cell_at 0 h8
              have y1:w8.cell? ⟨wq.heap.size,1,none⟩=some (.int .i64 n1):=cell_at 1 h8
              have y2:w8.cell? ⟨wq.heap.size,2,none⟩=some (.string sn1):=cell_at 2 h8
              have y3:w8.cell? ⟨wq.heap.size,3,none⟩=some (.slice b1 l1 d1):=cell_at 3 h8
              have y4:w8.cell? ⟨wq.heap.size,4,none⟩=some (.int .i64 p1):=cell_at 4 h8
              dsimp only at KX
              generalize exV c M e=V at KX hve
              clear o8 h8 z0 z1 z2 z3 z4
              have HVE:=Lib.hid hve
              clear hve
              go_wp2_with fail
              refine KX.mono ?_
              rintro en w9 ⟨rfl,o9⟩
              have HQ9:=Lib.hid (HQ8.out.trans o9 (by simp))
              clear KX o9 y0 y1 y2 y3 y4
              by_cases hV0:V=0
              · subst hV0
                have hany:(exVs c M d.needs).any (fun v=>v == 0)=true:=List.any_eq_true.2 ⟨0,List.mem_of_getElem? HVE.out,rfl⟩
                have hRR:=HR.out
                rw [if_pos hany] at hRR
                have HRR:=Lib.hid hRR
                have HB9:=Lib.hid (HBr.out.kept HQ9.out (by simp))
                clear hany hRR
                go_wp2_with (first
                  | (refine wpList_built rfl [] rfl (0 :: blankP) built_none ?_)
                  | (refine wpList_store_page rfl _ _ rfl gr (0 :: blankP) (by rfl) (by rfl) (by rfl) _ HB9.out (by rfl) ?_
                     intro w10 hb10 ho10))
                have ho11:=(HWR.out.trans HQ9.out (by simp)).trans ho10 (fun k hk=>.inr (by rw [List.mem_singleton.1 hk];exact hgrw))
                (try simp only [Exit.inBlock,Exit.then])
                refine bodyPost_ret (results_page3 rfl _ _ gr _ _ _ (by rfl) (by rfl) (by rfl) hb10 (by rfl)) rfl ?_
                unfold RunPost
                rw [HRR.out]
                exact ⟨rfl,ho11⟩
              · have hV1:(V == 0)=false:=by simpa using hV0
                have HA1:=Lib.hid (show ((exVs c M d.needs).take (j+1)).any (fun v=>v == 0)=false by
                  rw [List.take_add_one,HVE.out,List.any_append,HA.out]
                  simpa using hV0)
                go_wp2_with fail
                refine ⟨⟨j+1,by omega,by go_num,HA1,HQ9⟩,?_⟩
                simp [intOf]
                omega
            · obtain rfl:j=L2:=by omega
              have hany:=HA.out
              rw [List.take_of_length_le (by rw [exVs_length,HL2.out];omega)] at hany
              have hRR:=HR.out
              rw [if_neg (by rw [hany];decide)] at hRR
              have HYq:=Lib.hid (HQ.out.heap HYr.out (by simp))
              have HBq:=Lib.hid (HBr.out.kept HQ.out (by simp))
              have y3:wq.cell? ⟨w.heap.size,3,none⟩=some (.slice a3 L3 c3):=cell_at 3 HYq.out
              have KX:=pblock_any (HRN.out.quiet HQ.out) (okB_of HWH.out HP.out HG.out HFL.out) (by have:=HWH.out.size;omega) (HPT.out.2.2.1.kept HWQ.out (by simp) (fun _ h=>h)) hg0 hb0
              generalize pgB d.body ⟨c,M⟩=s2 at KX hRR
              have HRR:=Lib.hid hRR
              clear hany hRR HA
              go_wp2_with fail
              refine KX.mono ?_
              rintro en w10 ⟨rfl,h10,o10⟩
              have HM10:=Lib.hid h10
              have hgs:∀ k∈[g,b],w.heap.size < k:=fun k hk=>by
                simp only [List.mem_cons,List.not_mem_nil,or_false] at hk
                rcases hk with rfl | rfl<;>omega
              have HW10:=Lib.hid (HWQ.out.trans o10 (fun k hk=>.inr (Nat.le_of_lt (hgs k hk))))
              have HY10:=Lib.hid (o10.heap HYq.out (fun hk=>by have:=hgs _ hk;omega))
              have HB10:=Lib.hid (HBq.out.kept o10 (by simp;omega))
              clear KX y3 h10 o10 HBq HYq
              have y4:w10.cell? ⟨w.heap.size,4,none⟩=some (.slice a4 L4 c4):=cell_at 4 HY10.out
              go_wp2_with fail
              clear y4
              have hone:L4≤1:=by rw [HL4.out];exact HWH.out.one
              go_loopw [17,74] (fun ia ib wz=>∃ j:Nat,j≤L4∧ib=.int .i64 (j:Int)∧(∃ gv,ia=.int .i64 gv∧Hid (gv=if j=0 then 0 else (exVs s2.c s2.m d.give).getD 0 0))∧Hid (Only [] w10 wz)) (fun ia ib _=>L4 - (intOf ib).toNat)
              case atStart=>exact ⟨0,Nat.zero_le _,rfl,⟨0,rfl,Lib.hid rfl⟩,Lib.hid (Only.refl _ _)⟩
              case round=>
                obtain ⟨j,hjl4,rfl,⟨gv,rfl,HGV⟩,HZ⟩:=hrel
                generalize wr=wz at HZ⊢
                have HWZ:=Lib.hid (HW10.out.trans HZ.out (by simp))
                by_cases hlt:j < L4
                · have hlt':(j:Int) < (L4:Int):=by omega
                  obtain rfl:j=0:=by omega
                  obtain ⟨e,he⟩:∃ e,d.give[0]?=some e:=⟨_,List.getElem?_eq_getElem (by rw [← HL4.out];exact hlt)⟩
                  obtain ⟨gq,rfl,-,hes⟩:=HPT.out.2.2.2.nth he
                  obtain ⟨k1,n1,sn1,b1,l1,d1,p1,hev1,hat1⟩:=hes.at5 he
                  have hat:=hat1.kept HWZ.out (by simp)
                  have z0:wz.cell? ⟨gq,0,none⟩=some (.int .i64 k1):=hat.c0
                  have z1:wz.cell? ⟨gq,1,none⟩=some (.int .i64 n1):=hat.c1
                  have z2:wz.cell? ⟨gq,2,none⟩=some (.string sn1):=hat.c2
                  have z3:wz.cell? ⟨gq,3,none⟩=some (.slice b1 l1 d1):=hat.c3
                  have z4:wz.cell? ⟨gq,4,none⟩=some (.int .i64 p1):=hat.c4
                  have hve:(exVs s2.c s2.m d.give).getD 0 0=exV s2.c s2.m e:=by rw [List.getD_eq_getElem?_getD,exVs_get,he];rfl
                  have HE:=Lib.hid (And.intro (wL_mem HWH.out.give he) (gL_mem HG.out.give he))
                  have HEV:=Lib.hid (hev1.quiet HWZ.out)
                  clear hes hat1 hat he hev1 HGV
                  go_upto_region 24 with (fail)
                  have o8:Only [] wz (wz.alloc (.cells #[.int .i64 k1,.int .i64 n1,.string sn1,.slice b1 l1 d1,.int .i64 p1] 70)):=(Only.refl _ _).alloc _
                  have h8:=heap_new wz (.cells #[.int .i64 k1,.int .i64 n1,.string sn1,.slice b1 l1 d1,.int .i64 p1] 70)
                  generalize wz.alloc (.cells #[.int .i64 k1,.int .i64 n1,.string sn1,.slice b1 l1 d1,.int .i64 p1] 70)=w11 at o8 h8⊢
                  have HZ8:=Lib.hid (HZ.out.trans o8 (by simp))
                  have KX:=pexpr_any (HM10.out.quiet HZ8.out) HE.out.1 HE.out.2 (HEV.out.quiet o8)
                  have y0:w11.cell? ⟨wz.heap.size,0,none⟩=some (.int .i64 k1):=cell_at 0 h8
                  have y1:w11.cell? ⟨wz.heap.size,1,none⟩=some (.int .i64 n1):=cell_at 1 h8
                  have y2:w11.cell? ⟨wz.heap.size,2,none⟩=some (.string sn1):=cell_at 2 h8
                  have y3:w11.cell? ⟨wz.heap.size,3,none⟩=some (.slice b1 l1 d1):=cell_at 3 h8
                  have y4:w11.cell? ⟨wz.heap.size,4,none⟩=some (.int .i64 p1):=cell_at 4 h8
                  rw [← hve] at KX
                  obtain ⟨V,hV⟩:∃ V,V=(exVs s2.c s2.m d.give).getD 0 0:=⟨_,rfl⟩
                  rw [← hV] at KX
                  have HGW:=Lib.hid (show V=if 0+1=0 then 0 else (exVs s2.c s2.m d.give).getD 0 0 from hV)
                  clear o8 h8 z0 z1 z2 z3 z4 hve hV
                  go_wp2_with fail
                  refine KX.mono ?_
                  rintro en w12 ⟨rfl,o12⟩
                  have HZ12:=Lib.hid (HZ8.out.trans o12 (by simp))
                  clear KX o12 y0 y1 y2 y3 y4
                  go_wp2_with fail
                  refine ⟨⟨0+1,by omega,by go_num,⟨V,rfl,HGW⟩,HZ12⟩,?_⟩
                  simp [intOf]
                  omega
                · obtain rfl:j=L4:=by omega
                  have hgv:gv=(exVs s2.c s2.m d.give).getD 0 0:=by
                    rw [HGV.out]
                    split
                    · rename_i h0
                      have:d.give=[]:=List.eq_nil_of_length_eq_zero (by rw [← HL4.out];exact h0)
                      rw [this]
                      unfold exVs
                      rfl
                    · rfl
                  have hRR:=HRR.out
                  rw [← hgv] at hRR
                  have HRR2:=Lib.hid hRR
                  have HMZ:=Lib.hid (HM10.out.quiet HZ.out)
                  have HBZ:=Lib.hid (HB10.out.kept HZ.out (by simp))
                  have h61:(n :: s2.c).length=61:=by rw [List.length_cons,HM10.out.sw.1.len]
                  have H612:=Lib.hid h61
                  clear hgv hRR HRR HGV h61
                  go_wp2_with (first
                    | (refine wpList_load_pg rfl _ rfl HMZ.out (by rfl) ?_)
                    | (refine wpList_store_page rfl _ _ rfl gr (n :: s2.c) (by rfl) (by rfl) H612.out _ HBZ.out (by rfl) ?_
                       intro w13 hb13 ho13))
                  have ho14:=HWZ.out.trans ho13 (fun k hk=>.inr (by rw [List.mem_singleton.1 hk];exact hgrw))
                  (try simp only [Exit.inBlock,Exit.then])
                  refine bodyPost_ret (results_page3 rfl _ _ gr _ _ _ (by rfl) (by rfl) (by rfl) hb13 H612.out) rfl ?_
                  unfold RunPost
                  rw [HRR2.out]
                  exact ⟨rfl,ho14⟩
    · rw [if_neg hll]
      have hRR:=HR.out
      rw [if_pos (by rw [← HL0.out,← HL1.out];exact hll)] at hRR
      have HRR:=Lib.hid hRR
      have q2:=neq_e2
      clear hRR hll q1
      go_wp2_with (first
        | (refine wpList_built rfl [] rfl (0 :: blankP) built_none ?_)
        | (refine wpList_store_page rfl _ _ rfl gr (0 :: blankP) (by rfl) (by rfl) (by rfl) _ HBR.out (by rfl) ?_
           intro w6 hb6 ho6))
      have ho7:=HO.out.trans ho6 (fun k hk=>.inr (by rw [List.mem_singleton.1 hk];omega))
      (try simp only [Exit.inBlock,Exit.then])
      refine bodyPost_ret (results_page3 rfl _ _ gr _ _ _ (by rfl) (by rfl) (by rfl) hb6 (by rfl)) rfl ?_
      unfold RunPost
      rw [HRR.out]
      exact ⟨rfl,ho7⟩
end Go.Proofs.Ytiaeagpepfmfgaa
namespace Go.Proofs.Ytiaeagpepfmfgaa
open Go.RowKit Go.Maps
set_option linter.unusedSimpArgs false
set_option linter.unusedVariables false
section
variable {w:World} {o:Oper} {a:Act} {K:Act→World→Prop} {Q:Exit→Act→World→Prop}
theorem wp_page_load (x:Operand) (ho:o.op=.load 35 x) (g:Nat) (hx:a.eval x=.pointer (some ⟨g,0,none⟩)) (l:List Int) (hb:PB w g 35 l) (hl:l.length=61)
  (h:K (a.put o.dst (.agg (ivA l))) w):o.wp Try.prog a w K Q:=
 wp_load_row _ x ho g hx _ _ _ _ hb Try.underlying35 rfl (size_page l hl) h
theorem wp_page_mid (x:Operand) (ho:o.op=.load 33 x) (g:Nat) (hx:a.eval x=.pointer (some ⟨g,1,none⟩)) (n:Int) (l:List Int) (hb:PB w g 35 (n :: l)) (hl:l.length=60)
  (h:K (a.put o.dst (.agg (ivA l))) w):o.wp Try.prog a w K Q:=by
 have hrun:(execOp a.eval o).run Try.prog w=.ok (.value (.agg (ivA l))) w:=by
  simp [execOp,ho,hx,Instr.loadAt,Instr.sureAddr,run_load_mid hb hl,Result.andThen]
 unfold Oper.wp
 rw [hrun]
 exact h
theorem wp_page_built (ps:List (Nat×Operand)) (ho:o.op=.build 35 ps.toArray) (l:List Int) (hl:Try.prog.built 35 (ps.map fun x=>(x.1,a.eval x.2))=some (ivA l))
  (h:K (a.put o.dst (.agg (ivA l))) w):o.wp Try.prog a w K Q:=by
 have e:(ps.toArray.map fun (i,x)=>(i,a.eval x)).toList=ps.map fun x=>(x.1,a.eval x.2):=by simp
 refine wp_build _ ps.toArray ho (by rw [e,hl];rfl) ?_
 rw [e,hl]
 exact h
theorem wp_page_eql (x y:Operand) (ho:o.op=.binOp .eql 35 x y 35) (n m:Int) (c d:List Int) (hx:a.eval x=.agg (ivA (n :: c))) (hy:a.eval y=.agg (ivA (m :: d))) (hc:c.length=60) (hd:d.length=60)
  (h:K (a.put o.dst (.bool (decide (n=m) && decide (c=d)))) w):o.wp Try.prog a w K Q:=by
 have hrun:(execOp a.eval o).run Try.prog w=.ok (.value (.bool (decide (n=m) && decide (c=d)))) w:=by
  simp only [execOp,ho,hx,hy,Sem.run_bind,run_eqGuard_agg w .eql 35 x y _ _ guard_page,Result.andThen_ok,eql_page n m c d hc hd,Sem.run_pure]
 unfold Oper.wp
 rw [hrun]
 exact h
theorem wp_page_neq (x y:Operand) (ho:o.op=.binOp .neq 35 x y 35) (n m:Int) (c d:List Int) (hx:a.eval x=.agg (ivA (n :: c))) (hy:a.eval y=.agg (ivA (m :: d))) (hc:c.length=60) (hd:d.length=60)
  (h:K (a.put o.dst (.bool (!(decide (n=m) && decide (c=d))))) w):o.wp Try.prog a w K Q:=by
 have hrun:(execOp a.eval o).run Try.prog w=.ok (.value (.bool (!(decide (n=m) && decide (c=d))))) w:=by
  simp only [execOp,ho,hx,hy,Sem.run_bind,run_eqGuard_agg w .neq 35 x y _ _ guard_page,Result.andThen_ok,neq_page n m c d hc hd,Sem.run_pure]
 unfold Oper.wp
 rw [hrun]
 exact h
theorem wp_cells_neq (x y:Operand) (ho:o.op=.binOp .neq 33 x y 33) (c d:List Int) (hx:a.eval x=.agg (ivA c)) (hy:a.eval y=.agg (ivA d)) (hc:c.length=60) (hd:d.length=60)
  (h:K (a.put o.dst (.bool (!decide (c=d)))) w):o.wp Try.prog a w K Q:=by
 have hrun:(execOp a.eval o).run Try.prog w=.ok (.value (.bool (!decide (c=d)))) w:=by
  simp only [execOp,ho,hx,hy,Sem.run_bind,run_eqGuard_agg w .neq 33 x y _ _ guard_cells,Result.andThen_ok,neq_cells c d hc hd,Sem.run_pure]
 unfold Oper.wp
 rw [hrun]
 exact h
end
set_option maxRecDepth 100000 in
theorem filled9_any (v:Value) (l:List Int) (w:World) (hv:IntsV w v l) (hl:l.length≤9223372036854775807) :
    Calls Try.prog 11 #[v] w fun e w'=>e=.returned (.agg (ivA (5 :: filC l 60)))∧Only [] w w':=by
  obtain ⟨a,cap,rfl,-⟩:=id hv
  have HV:=Lib.hid hv
  clear hv
  have HZ:=Lib.hid (filC_zero l)
  go_enter Try.func11,Try.ntmps11
  have T1:=trivial
  have T2:=trivial
  go_wp2_with (first
    | (clear T1
       refine wpList_new_page rfl rfl ?_
       intro w1 g1 hb1 hg1 ho1
       have HB1:=Lib.hid hb1
       have HG1:=Lib.hid hg1
       have HO1:=Lib.hid ho1
       clear hb1 hg1 ho1)
    | (refine wpList_built rfl [(0,.const (.int .i64 5))] rfl (5 :: blankP) (built_num 5) ?_)
    | (clear T2
       refine wpList_new_page rfl rfl ?_
       intro w2 g2 hb2 hg2 ho2
       have HO2:=Lib.hid (HO1.out.trans ho2 (by simp))
       have HB1':=Lib.hid (HB1.out.kept ho2 (by simp))
       have hne:g1≠g2:=by have:=HB1.out.lt;omega
       have HG2:=Lib.hid (Nat.le_trans HO1.out.size hg2)
       have HB2:=Lib.hid hb2
       clear hb2 hg2 ho2 HB1 HO1)
    | (refine wpList_store_page rfl _ _ rfl g2 (5 :: blankP) (by rfl) (by rfl) (by rfl) _ HB2.out (by rfl) ?_
       intro w3 hb3 ho3
       have ho4:=HO2.out.trans ho3 (by simp;exact HG2.out)
       have hb4:=HB1'.out.kept ho3 (by simpa using hne)
       rw [← HZ.out] at hb3
       clear HO2 ho3 HB1' HB2))
  have HG1':w.heap.size≤g2:=HG2.out
  by_cases hnil:l.length=0
  · obtain rfl:l=[]:=List.eq_nil_of_length_eq_zero hnil
    go_loopw [4,6] (fun _ i wr=>∃ k:Nat,k≤60∧i=.int .i64 k∧PB wr g2 35 (5 :: filC [] k)∧PB wr g1 35 (List.replicate 61 0)∧Only [] w wr) (fun _ i _=>60 - (intOf i).toNat)
    case atStart=>exact ⟨0,by omega,rfl,hb3,hb4,ho4⟩
    case round=>
      obtain ⟨k,hk,rfl,hb,hb',ho⟩:=hrel
      by_cases hlt:k < 60
      · rw [filC_nil,← filC_nil (k+1)] at hb
        go_wp2_with fail
        go_roundw
        case rel=>exact ⟨k+1,by omega,by go_num,hb,hb',ho⟩
        case measure=>simp [intOf];omega
      · obtain rfl:k=60:=by omega
        have HO:=Lib.hid ho
        clear ho
        go_wp2_with (first
          | (refine wpList_load_page rfl _ rfl g2 (by rfl) _ hb (by simp [filC_length]) ?_)
          | (refine wpList_store_page rfl _ _ rfl g1 (5 :: filC [] 60) (by rfl) (by rfl) (by simp [filC_length]) _ hb' (by rfl) ?_
             intro w5 hb5 ho5))
        exact bodyPost_ret (results_page rfl _ _ g1 _ (by rfl) hb5 (by simp [filC_length])) rfl ⟨rfl,HO.out.trans ho5 (by simp;exact HG1.out)⟩
  · go_loopw [4,6] (fun _ i wr=>∃ k:Nat,k≤60∧i=.int .i64 k∧PB wr g2 35 (5 :: filC l k)∧PB wr g1 35 (List.replicate 61 0)∧Only [] w wr) (fun _ i _=>60 - (intOf i).toNat)
    case atStart=>exact ⟨0,by omega,rfl,hb3,hb4,ho4⟩
    case round=>
      obtain ⟨k,hk,rfl,hb,hb',ho⟩:=hrel
      by_cases hlt:k < 60
      · have hm:k % l.length < l.length:=Nat.mod_lt _ (by omega)
        obtain ⟨z,hz⟩:∃ z,l[k % l.length]?=some z:=⟨_,List.getElem?_eq_getElem hm⟩
        obtain ⟨-,b,off,cap1,e1,hcell⟩:=(HV.out.kept ho (by intro a n c e h;simp)).at_ hz
        cases e1
        have hfil:fil l k=z:=by simp [fil,List.getD,hz]
        have hset:=filC_set l k hlt
        rw [hfil] at hset
        have hc2:∃ v,wr.cell? ⟨g2,1+k,none⟩=some v:=⟨_,hb.cell (z:=(filC l k)[k]'(by rw [filC_length];omega)) (by rw [Nat.add_comm,List.getElem?_cons_succ,List.getElem?_eq_getElem])⟩
        obtain ⟨v2,hc2⟩:=hc2
        have hf2:wr.frozen? ⟨g2,1+k,none⟩=false:=hb.free _
        have hb5:PB (wr.setCell ⟨g2,1+k,none⟩ (.int .i64 z)) g2 35 (5 :: filC l (k+1)):=by
          have e:(5 :: filC l k).set (1+k) z=5 :: filC l (k+1):=by rw [Nat.add_comm,List.set_cons_succ,hset]
          rw [← e]
          exact hb.set (1+k) z
        have ho5:Only [] w (wr.setCell ⟨g2,1+k,none⟩ (.int .i64 z)):=ho.setCell (Or.inr HG1') _
        have hb6:PB (wr.setCell ⟨g2,1+k,none⟩ (.int .i64 z)) g1 35 (List.replicate 61 0):=hb'.kept ((Only.refl [g2] wr).setCell (.inl (by simp)) _) (by simpa using hne)
        have hrem:(k:Int).tmod (l.length:Int)=((k % l.length:Nat):Int):=by rw [Int.ofNat_tmod]
        clear hb hb' ho hset hfil hz
        go_wp2_with fail
        go_roundw
        case rel=>exact ⟨k+1,by omega,by go_num,hb5,hb6,ho5⟩
        case measure=>simp [intOf];omega
      · obtain rfl:k=60:=by omega
        have HO:=Lib.hid ho
        clear ho
        go_wp2_with (first
          | (refine wpList_load_page rfl _ rfl g2 (by rfl) _ hb (by simp [filC_length]) ?_)
          | (refine wpList_store_page rfl _ _ rfl g1 (5 :: filC l 60) (by rfl) (by rfl) (by simp [filC_length]) _ hb' (by rfl) ?_
             intro w5 hb5 ho5))
        exact bodyPost_ret (results_page rfl _ _ g1 _ (by rfl) hb5 (by simp [filC_length])) rfl ⟨rfl,HO.out.trans ho5 (by simp;exact HG1.out)⟩
theorem ints_two (w:World) {a b:Int} (ha:n64 a) (hb:n64 b):IntsV (w.alloc (.cells #[.int .i64 a,.int .i64 b] 3)) (.slice (some ⟨w.heap.size,0,none⟩) 2 2) [a,b]:=by
 refine ⟨_,2,rfl,fun i k hi=>?_⟩
 have h:=heap_new w (.cells #[.int .i64 a,.int .i64 b] 3)
 rcases i with _ | _ | i
 ·simp only [List.getElem?_cons_zero,Option.some.injEq] at hi
  subst hi
  exact ⟨n64_wf ha,_,0,rfl,cell_at 0 h⟩
 ·simp only [List.getElem?_cons_succ,List.getElem?_cons_zero,Option.some.injEq] at hi
  subst hi
  exact ⟨n64_wf hb,_,0,rfl,cell_at 1 h⟩
 ·simp at hi
theorem wf_n64 {z:Int} (h:(Lit.int .i64 z).wf=true):n64 z:=by
 simp only [Lit.wf,Bool.and_eq_true,decide_eq_true_eq] at h
 exact h
theorem cw_blank:CW blankP:=⟨by rfl,fun z hz=>by simp [blankP] at hz;subst hz;exact n64_zero⟩
theorem cw_fil {l:List Int} (h:∀ z∈l,n64 z) (k:Nat):CW (filC l k):=⟨filC_length l k,fun z hz=>filC_in h k z hz⟩
theorem ints_n64 {w:World} {v:Value} {l:List Int} (h:IntsV w v l):∀ z∈l,n64 z:=by
 intro z hz
 obtain ⟨i,hi⟩:=List.mem_iff_getElem?.1 hz
 obtain ⟨a,cap,rfl,hx⟩:=h
 exact wf_n64 (hx i z hi).1
def dfOf (l:Sec):Df:=match parseS l with | .ok d=>d | .error _=>⟨[],[],[],[],[]⟩
def ParOk (w:World) (d:Df) (e:Ending) (w':World):Prop:=
 ∃ (s:ByteArray) (a1 a2 a3 a4:Option Addr) (l1 l2 l3 l4 c1 c2 c3 c4:Nat),e=.returned (.tuple #[.agg #[.string s,.slice a1 l1 c1,.slice a2 l2 c2,.slice a3 l3 c3,.slice a4 l4 c4],.int .i64 0,.int .i64 0])∧
  DV w' (fun b=>w.heap.size≤b) d [.string s,.slice a1 l1 c1,.slice a2 l2 c2,.slice a3 l3 c3,.slice a4 l4 c4]∧Only [] w w'
theorem parse_ok {s:ByteArray} (w:World) {d:Df} (hs:s.size≤9223372036854775807) (h:parseS s.data.toList=.ok d):Calls Try.prog 10 #[.string s] w (ParOk w d):=by
 refine (rparse_any s w hs).mono ?_
 rintro e w' ⟨sn,a1,a2,a3,a4,l1,l2,l3,l4,c1,c2,c3,c4,c,p,rfl,-,hok,ho⟩
 obtain ⟨rfl,rfl,hdv⟩:=hok d h
 exact ⟨sn,a1,a2,a3,a4,l1,l2,l3,l4,c1,c2,c3,c4,rfl,hdv,ho⟩
def txA9:Sec:=[111,112,32,97,100,100,40,105,44,32,118,41,32,123,32,110,101,101,100,32,105,32,60,32,54,48,59,32,91,105,93,32,43,61,32,118,59,32,103,105,118,101,32,118,59,32,125]
theorem parA9:parseS txA9=.ok (dfOf txA9):=by kernel_rfl
theorem runA9_1:runP (dfOf txA9) 0 blankP [3,5]=((0,blankP.set 3 5),5,0):=by kernel_rfl
theorem runA9_2:runP (dfOf txA9) 0 blankP [60,1]=((0,blankP),0,12):=by kernel_rfl
theorem runA9_3:runP (dfOf txA9) 0 blankP [-1,1]=((0,blankP),1,0):=by kernel_rfl
end Go.Proofs.Ytiaeagpepfmfgaa
namespace Go.Proofs.Ytiaeagpepfmfgaa
open Go.RowKit Go.Maps
set_option linter.unusedSimpArgs false
set_option linter.unusedVariables false
theorem errV0:errV 0=.nilIface:=rfl
theorem errV12:errV 12=err 12:=rfl
theorem errV13:errV 13=err 13:=rfl
theorem errV2:errV 2=err 2:=rfl
theorem e12_e12 (w:World):(binOp .eql 38 (err 12) (err 12)).run Try.prog w=.ok (.bool true) w:=by kernel_rfl
theorem nil_nil9 (w:World):(binOp .eql 38 .nilIface .nilIface).run Try.prog w=.ok (.bool true) w:=by kernel_rfl
set_option maxRecDepth 100000 in
set_option maxHeartbeats 4000000 in
theorem alive9_any (w:World):Calls Try.prog 9 #[] w fun e w'=>e=.returned (.bool true)∧Only [] w w':=by
  have KP:=parse_ok (s:=⟨#[111,112,32,97,100,100,40,105,44,32,118,41,32,123,32,110,101,101,100,32,105,32,60,32,54,48,59,32,91,105,93,32,43,61,32,118,59,32,103,105,118,101,32,118,59,32,125]⟩) w (by decide) (show parseS (⟨#[111,112,32,97,100,100,40,105,44,32,118,41,32,123,32,110,101,101,100,32,105,32,60,32,54,48,59,32,91,105,93,32,43,61,32,118,59,32,103,105,118,101,32,118,59,32,125]⟩:ByteArray).data.toList=_ from parA9)
  go_enter Try.func9,Try.ntmps9
  go_wp2_with fail
  refine KP.mono ?_
  rintro e w1 ⟨sn,a1,a2,a3,a4,l1,l2,l3,l4,c1,c2,c3,c4,rfl,hdv,o1⟩
  have HDV:=Lib.hid hdv
  have HO:=Lib.hid o1
  have HWH:=Lib.hid (parse_whole parA9)
  have HPL:=Lib.hid (parse_plain parA9)
  have HGD:=Lib.hid (parse_good parA9)
  have R1:=Lib.hid runA9_1
  have R2:=Lib.hid runA9_2
  have R3:=Lib.hid runA9_3
  generalize dfOf txA9=d at HDV HWH HPL HGD R1 R2 R3
  clear KP hdv o1
  go_upto_region 2 with (fail)
  have oA:=(Only.refl [] w1).alloc (.cells #[.string sn,.slice a1 l1 c1,.slice a2 l2 c2,.slice a3 l3 c3,.slice a4 l4 c4] 30)
  have hA:=heap_new w1 (.cells #[.string sn,.slice a1 l1 c1,.slice a2 l2 c2,.slice a3 l3 c3,.slice a4 l4 c4] 30)
  obtain ⟨gd,hgd⟩:∃ g,g=w1.heap.size:=⟨_,rfl⟩
  rw [← hgd] at hA⊢
  generalize w1.alloc (.cells #[.string sn,.slice a1 l1 c1,.slice a2 l2 c2,.slice a3 l3 c3,.slice a4 l4 c4] 30)=w2 at oA hA⊢
  replace HO:=Lib.hid (HO.out.trans oA (by simp))
  replace HDV:=Lib.hid (HDV.out.kept oA (by simp) (fun _ h=>h))
  have HA:=Lib.hid hA
  clear oA hA hgd
  have T1:=trivial
  have T2:=trivial
  have T3:=trivial
  have y0:w2.cell? ⟨gd,0,none⟩=some (.string sn):=cell_at 0 HA.out
  have y1:w2.cell? ⟨gd,1,none⟩=some (.slice a1 l1 c1):=cell_at 1 HA.out
  have y2:w2.cell? ⟨gd,2,none⟩=some (.slice a2 l2 c2):=cell_at 2 HA.out
  have y3:w2.cell? ⟨gd,3,none⟩=some (.slice a3 l3 c3):=cell_at 3 HA.out
  have y4:w2.cell? ⟨gd,4,none⟩=some (.slice a4 l4 c4):=cell_at 4 HA.out
  go_wp2_with (refine wpList_built rfl [] rfl (0 :: blankP) built_none ?_)
  have oS:=(Only.refl [] w2).alloc (.cells #[.int .i64 3,.int .i64 5] 3)
  have KR:=run_any (HDV.out.kept oS (by simp) (fun _ h=>h)) HWH.out HPL.out HGD.out cw_blank (n:=0) (ints_two w2 (a:=3) (b:=5) (by unfold n64;omega) (by unfold n64;omega)) (by unfold maxLen;decide)
  rw [R1.out] at KR
  refine KR.mono ?_
  rintro e w3 ⟨rfl,oR⟩
  (try rw [errV0])
  (try rw [errV12])
  dsimp only
  have oT:=oS.trans oR (by simp)
  replace HO:=Lib.hid (HO.out.trans oT (by simp))
  replace HDV:=Lib.hid (HDV.out.kept oT (by simp) (fun _ h=>h))
  replace HA:=Lib.hid (oT.heap HA.out (by simp))
  clear KR oS oR oT y0 y1 y2 y3 y4
  go_upto_region 3 with (first
    | (clear T1
       refine wpList_new_page rfl rfl ?_
       intro w4 gp hbp hgp hop
       have HP1:=Lib.hid hbp
       have HOP:=Lib.hid hop
       have HGP:=Lib.hid hgp
       clear hbp hgp hop)
    | (refine wpList_store_page rfl _ _ rfl gp (0 :: blankP.set 3 5) (by rfl) (by rfl) (by rfl) _ HP1.out (by rfl) ?_
       intro w5 hb5 ho5))
  have o35:Only [] w3 w5:=HOP.out.trans ho5 (fun k hk=>.inr (by rw [List.mem_singleton.1 hk];exact HGP.out))
  replace HO:=Lib.hid (HO.out.trans o35 (by simp))
  replace HDV:=Lib.hid (HDV.out.kept o35 (by simp) (fun _ h=>h))
  replace HA:=Lib.hid (o35.heap HA.out (by simp))
  have HB1:=Lib.hid hb5
  clear HP1 HOP HGP hb5 ho5 o35
  have y0:w5.cell? ⟨gd,0,none⟩=some (.string sn):=cell_at 0 HA.out
  have y1:w5.cell? ⟨gd,1,none⟩=some (.slice a1 l1 c1):=cell_at 1 HA.out
  have y2:w5.cell? ⟨gd,2,none⟩=some (.slice a2 l2 c2):=cell_at 2 HA.out
  have y3:w5.cell? ⟨gd,3,none⟩=some (.slice a3 l3 c3):=cell_at 3 HA.out
  have y4:w5.cell? ⟨gd,4,none⟩=some (.slice a4 l4 c4):=cell_at 4 HA.out
  go_wp2_with (refine wpList_built rfl [] rfl (0 :: blankP) built_none ?_)
  have oS:=(Only.refl [] w5).alloc (.cells #[.int .i64 60,.int .i64 1] 3)
  have KR:=run_any (HDV.out.kept oS (by simp) (fun _ h=>h)) HWH.out HPL.out HGD.out cw_blank (n:=0) (ints_two w5 (a:=60) (b:=1) (by unfold n64;omega) (by unfold n64;omega)) (by unfold maxLen;decide)
  rw [R2.out] at KR
  refine KR.mono ?_
  rintro e w6 ⟨rfl,oR⟩
  (try rw [errV0])
  (try rw [errV12])
  dsimp only
  have oT:=oS.trans oR (by simp)
  replace HO:=Lib.hid (HO.out.trans oT (by simp))
  replace HDV:=Lib.hid (HDV.out.kept oT (by simp) (fun _ h=>h))
  replace HA:=Lib.hid (oT.heap HA.out (by simp))
  replace HB1:=Lib.hid (HB1.out.kept oT (by simp))
  clear KR oS oR oT y0 y1 y2 y3 y4
  go_upto_region 4 with (first
    | (clear T2
       refine wpList_new_page rfl rfl ?_
       intro w7 gp2 hbp hgp hop
       have HP1:=Lib.hid hbp
       have HOP:=Lib.hid hop
       have HGP:=Lib.hid hgp
       clear hbp hgp hop)
    | (refine wpList_store_page rfl _ _ rfl gp2 (0 :: blankP) (by rfl) (by rfl) (by rfl) _ HP1.out (by rfl) ?_
       intro w8 hb8 ho8))
  have o68:Only [] w6 w8:=HOP.out.trans ho8 (fun k hk=>.inr (by rw [List.mem_singleton.1 hk];exact HGP.out))
  replace HO:=Lib.hid (HO.out.trans o68 (by simp))
  replace HDV:=Lib.hid (HDV.out.kept o68 (by simp) (fun _ h=>h))
  replace HA:=Lib.hid (o68.heap HA.out (by simp))
  replace HB1:=Lib.hid (HB1.out.kept o68 (by simp))
  clear HP1 HOP HGP hb8 ho8 o68
  have y0:w8.cell? ⟨gd,0,none⟩=some (.string sn):=cell_at 0 HA.out
  have y1:w8.cell? ⟨gd,1,none⟩=some (.slice a1 l1 c1):=cell_at 1 HA.out
  have y2:w8.cell? ⟨gd,2,none⟩=some (.slice a2 l2 c2):=cell_at 2 HA.out
  have y3:w8.cell? ⟨gd,3,none⟩=some (.slice a3 l3 c3):=cell_at 3 HA.out
  have y4:w8.cell? ⟨gd,4,none⟩=some (.slice a4 l4 c4):=cell_at 4 HA.out
  go_wp2_with (refine wpList_built rfl [] rfl (0 :: blankP) built_none ?_)
  have oS:=(Only.refl [] w8).alloc (.cells #[.int .i64 (-1),.int .i64 1] 3)
  have KR:=run_any (HDV.out.kept oS (by simp) (fun _ h=>h)) HWH.out HPL.out HGD.out cw_blank (n:=0) (ints_two w8 (a:=(-1)) (b:=1) (by unfold n64;omega) (by unfold n64;omega)) (by unfold maxLen;decide)
  rw [R3.out] at KR
  refine KR.mono ?_
  rintro e w9 ⟨rfl,oR⟩
  (try rw [errV0])
  (try rw [errV12])
  dsimp only
  have oT:=oS.trans oR (by simp)
  replace HO:=Lib.hid (HO.out.trans oT (by simp))
  replace HDV:=Lib.hid (HDV.out.kept oT (by simp) (fun _ h=>h))
  replace HA:=Lib.hid (oT.heap HA.out (by simp))
  replace HB1:=Lib.hid (HB1.out.kept oT (by simp))
  clear KR oS oR oT y0 y1 y2 y3 y4
  go_upto_region 5 with (first
    | (clear T3
       refine wpList_new_page rfl rfl ?_
       intro w10 gp3 hbp hgp hop
       have HP1:=Lib.hid hbp
       have HOP:=Lib.hid hop
       have HGP:=Lib.hid hgp
       clear hbp hgp hop)
    | (refine wpList_store_page rfl _ _ rfl gp3 (0 :: blankP) (by rfl) (by rfl) (by rfl) _ HP1.out (by rfl) ?_
       intro w11 hb11 ho11))
  have o911:Only [] w9 w11:=HOP.out.trans ho11 (fun k hk=>.inr (by rw [List.mem_singleton.1 hk];exact HGP.out))
  replace HO:=Lib.hid (HO.out.trans o911 (by simp))
  replace HB1:=Lib.hid (HB1.out.kept o911 (by simp))
  have HB3:=Lib.hid hb11
  clear HP1 HOP HGP hb11 ho11 o911 HDV HA HWH HPL HGD R1 R2 R3
  have x3:w11.cell? ⟨gp,4,none⟩=some (.int .i64 5):=HB1.out.cell (by rfl)
  have q1:=e12_e12
  have q2:=nil_nil9
  have d2:(decide ((0:Int)=0) && decide (blankP=blankP))=true:=by decide
  have H61:Hid (((0:Int) :: blankP).length=61):=Lib.hid (by rfl)
  go_simp
  repeat (first
    | (guard_target =~ Oper.wp _ (Oper.mk (some 68) _ _ _ _ _) _ _ _ _;refine wp_page_load (.tmp 10) rfl gp3 (by rfl) (0 :: blankP) HB3.out H61.out ?_;simp only [Act.put,List.setIfInBounds_toArray,List.set_cons_zero,List.set_cons_succ])
    | (guard_target =~ Oper.wp _ (Oper.mk (some 69) _ _ _ _ _) _ _ _ _;refine wp_page_built [] rfl (0 :: blankP) built_none ?_;simp only [Act.put,List.setIfInBounds_toArray,List.set_cons_zero,List.set_cons_succ])
    | (guard_target =~ Oper.wp _ (Oper.mk (some 70) _ _ _ _ _) _ _ _ _;refine wp_page_eql (.tmp 68) (.tmp 69) rfl 0 0 blankP blankP (by rfl) (by rfl) (by rfl) (by rfl) ?_;rw [d2];simp only [Act.put,List.setIfInBounds_toArray,List.set_cons_zero,List.set_cons_succ])
    | go_values | go_skip | go_guarded | go_step | go_upon)
  go_ret
  exact ⟨rfl,HO.out⟩
end Go.Proofs.Ytiaeagpepfmfgaa
namespace Go.Proofs.Ytiaeagpepfmfgaa
open Go.ChangeShapes Go.WideShapes Go.ChangeAt Go.RowKit Go.Deep Go.Maps
set_option linter.unusedSimpArgs false
set_option linter.unusedVariables false
section
variable {H:Type} {enc:TypeId×Value→H} {W:World} {base:Nat} {sp:Nat→Bool} {held:Bool}
theorem open_str {fuel:Nat} {u:Value} {x:DataW H×List MemPlace} (h:DataW.trod enc Try.prog W base sp held fuel 9 [u]=some x):∃ s:ByteArray,u=.string s∧s.size≤maxLen:=by
 obtain ⟨s,h1,_,h3⟩:=DataW.trod_string Try.underlying9 h
 exact ⟨s,by simpa using h1,h3⟩
set_option maxRecDepth 100000 in
theorem open_case9 {r:Reach} {b0:Nat} {v:Value} {d:DataW H} {p:List MemPlace} (hv:Value.okWide Try.prog W r b0 24 v) (h:DataW.Trod enc Try.prog W base sp held 24 v d p) :
  ∃ (s:ByteArray) (bv:Value) (l:List Int) (cv:Value) (m:List Int),v=.agg #[.string s,bv,cv]∧s.size≤maxLen∧IntsV W bv l∧Fit bv∧l.length≤maxLen∧IntsV W cv m∧Fit cv∧m.length≤maxLen:=by
 obtain ⟨v0,v1,v2,y0,y1,y2,n,rfl,_,_,h0,h1,h2⟩:=Go.Joins.open_agg3 Try.underlying24 (by kernel_rfl) (by kernel_rfl) hv h
 obtain ⟨s,rfl,hs⟩:=open_str (u:=v0) (x:=y0) h0
 obtain ⟨l,hb,hf,hl⟩:=open_nums (v:=v1) (x:=y1) h1
 obtain ⟨m,hc,hg,hm⟩:=open_nums (v:=v2) (x:=y2) h2
 exact ⟨s,v1,l,v2,m,rfl,hs,hb,hf,hl,hc,hg,hm⟩
end
theorem neq_err (n:Int) (w:World):(binOp .neq 38 (err n) .nilIface).run Try.prog w=.ok (.bool true) w:=by kernel_rfl
theorem eql_err (n:Int) (w:World):(binOp .eql 38 (err n) .nilIface).run Try.prog w=.ok (.bool false) w:=by kernel_rfl
theorem errV_ne {k:Int} (h:k≠0):errV k=err k:=by unfold errV;rw [if_neg h]
theorem chg_out {k:Int} (h:¬ (2≤k∧k≤4)) (c:List Int) (i v:Int):chgC k c i v=c:=by
 unfold chgC
 split
 ·rw [if_neg (by omega),if_neg (by omega),if_neg (by omega)]
 ·rfl
mutual
theorem still_S:∀ (x:St) (s:PS),hasS 2 5 x=false→(pgS x s).c=s.c
 | .mk k nm xs n bd els p,s,h=>by
  unfold hasS at h
  simp only [Bool.or_eq_false_iff,Bool.and_eq_false_iff,decide_eq_false_iff_not] at h
  obtain ⟨h1,h2,h3⟩:=h
  unfold pgS
  split
  ·rfl
  ·split
   ·split
    ·exact still_B bd s h2
    ·exact still_B els s h3
   ·split
    ·exact loopA_inv (fun t:PS=>t.c=s.c) n.toNat (fun i t _ ht=>(still_B bd ⟨t.c,nput t.m nm (i:Int)⟩ h2).trans ht) _ (Nat.le_refl _) s rfl
    ·split
     ·exact loopA_inv (fun t:PS=>t.c=s.c) n.toNat (fun i t _ ht=>(still_B bd ⟨t.c,nput t.m nm (n - 1 - (i:Int))⟩ h2).trans ht) _ (Nat.le_refl _) s rfl
     ·split
      ·omega
      ·exact chg_out (by omega) _ _ _
theorem still_B:∀ (xs:List St) (s:PS),hasB 2 5 xs=false→(pgB xs s).c=s.c
 | [],s,_=>by rw [pgB_nil]
 | x :: xs,s,h=>by
  unfold hasB at h
  simp only [Bool.or_eq_false_iff] at h
  rw [pgB_cons,still_B xs _ h.2,still_S x s h.1]
end
theorem run_cases (d:Df) (n:Int) (c av:List Int):(∃ k,k≠0∧runP d n c av=((0,blankP),0,k)∧((opS CS.new d).flt=none→k=2∧av.length≠d.params.length∨k=12∧av.length=d.params.length))∨
  ((opS CS.new d).flt=none∧av.length=d.params.length∧runP d n c av=((n,(pgB d.body ⟨c,mP d.params av⟩).c),(exVs (pgB d.body ⟨c,mP d.params av⟩).c (pgB d.body ⟨c,mP d.params av⟩).m d.give).getD 0 0,0)):=by
 unfold runP
 cases hf:(opS CS.new d).flt with
 | some x=>exact .inl ⟨13,by decide,by rw [if_pos (show (some x).isSome=true from rfl)],fun h=>by cases h⟩
 | none=>
  rw [if_neg (show ¬ (none:Option (Int×Int)).isSome=true by decide)]
  by_cases hl:av.length≠d.params.length
  ·exact .inl ⟨2,by decide,by rw [if_pos hl],fun _=>.inl ⟨rfl,hl⟩⟩
  ·rw [if_neg hl]
   by_cases hn:(exVs c (mP d.params av) d.needs).any (fun v=>v == 0)=true
   ·exact .inl ⟨12,by decide,by rw [if_pos hn],fun _=>.inr ⟨rfl,by simpa using hl⟩⟩
   ·exact .inr ⟨rfl,by simpa using hl,by rw [if_neg hn]⟩
end Go.Proofs.Ytiaeagpepfmfgaa
namespace Go.Proofs.Ytiaeagpepfmfgaa
open Go.RowKit Go.Maps
set_option linter.unusedSimpArgs false
set_option linter.unusedVariables false
def plusC (c:List Int) (D:Nat→Int):List Int:=c.mapIdx fun i z=>wrap64 (z+D i)
theorem plusC_len (c:List Int) (D:Nat→Int):(plusC c D).length=c.length:=by unfold plusC;rw [List.length_mapIdx]
theorem plusC_cw {c:List Int} (h:CW c) (D:Nat→Int):CW (plusC c D):=by
 refine ⟨by rw [plusC_len,h.len],fun z hz=>?_⟩
 unfold plusC at hz
 rw [List.mem_mapIdx] at hz
 obtain ⟨i,hi,rfl⟩:=hz
 exact n64_wrap _
theorem wrap_plus (x y:Int):wrap64 (wrap64 x+y)=wrap64 (x+y):=by unfold wrap64;omega
theorem plusC_plus (c:List Int) (D E:Nat→Int):plusC (plusC c D) E=plusC c (fun i=>D i+E i):=by
 apply List.ext_getElem (by rw [plusC_len,plusC_len,plusC_len])
 intro i h1 h2
 simp only [plusC,List.getElem_mapIdx]
 rw [wrap_plus,Int.add_assoc]
theorem plusC_comm (c:List Int) (D E:Nat→Int):plusC (plusC c D) E=plusC (plusC c E) D:=by
 rw [plusC_plus,plusC_plus]
 congr 1
 funext i
 exact Int.add_comm _ _
theorem wrap_id64 {x:Int} (h:n64 x):wrap64 x=x:=by unfold n64 at h;unfold wrap64;omega
theorem plusC_zero {c:List Int} (h:CW c):plusC c (fun _=>0)=c:=by
 apply List.ext_getElem (by rw [plusC_len])
 intro i h1 h2
 simp only [plusC,List.getElem_mapIdx,Int.add_zero]
 exact wrap_id64 (h.in_ _ (List.getElem_mem h2))
theorem plusC_set {c:List Int} (h:CW c) {i:Int} (hi:inC i) (v:Int):c.set i.toNat (wrap64 (getC c i+v))=plusC c (fun k=>if k=i.toNat then v else 0):=by
 have hl:i.toNat < c.length:=by rw [h.len];omega
 apply List.ext_getElem (by rw [plusC_len,List.length_set])
 intro k h1 h2
 rw [plusC_len] at h2
 simp only [plusC,List.getElem_mapIdx,List.getElem_set]
 by_cases e:i.toNat=k
 ·have e2:c.getD i.toNat 0=c[k]:=by
   rw [e,List.getD_eq_getElem?_getD,List.getElem?_eq_getElem h2]
   rfl
  have e3:getC c i=c[k]:=by
   unfold getC
   rw [if_pos hi,e2]
  rw [if_pos e,if_pos e.symm,e3]
 ·rw [if_neg e,if_neg (fun e'=>e e'.symm),Int.add_zero]
  exact (wrap_id64 (h.in_ _ (List.getElem_mem h2))).symm
mutual
theorem blind_E (c c':List Int) (m:Nms):∀ e:E,cellE e=false→exV c m e=exV c' m e
 | .mk k n nm xs p,h=>by
  unfold cellE at h
  simp only [Bool.or_eq_false_iff,decide_eq_false_iff_not] at h
  unfold exV
  rw [blind_L c c' m xs h.2]
  unfold exO
  by_cases h2:k=2
  ·rw [if_pos h2,if_pos h2]
  ·rw [if_neg h2,if_neg h2,if_neg h.1,if_neg h.1]
theorem blind_L (c c':List Int) (m:Nms):∀ xs:List E,cellL xs=false→exVs c m xs=exVs c' m xs
 | [],_=>by unfold exVs;rfl
 | x :: xs,h=>by
  unfold cellL at h
  simp only [Bool.or_eq_false_iff] at h
  unfold exVs
  rw [blind_E c c' m x h.1,blind_L c c' m xs h.2]
end
def AddsF (f:PS→PS):Prop:=∀ m,∃ D m',∀ c,CW c→f ⟨c,m⟩=⟨plusC c D,m'⟩
theorem AddsF.id:AddsF (fun s=>s):=fun m=>⟨fun _=>0,m,fun c hc=>by rw [plusC_zero hc]⟩
theorem AddsF.comp {f g:PS→PS} (hf:AddsF f) (hg:AddsF g):AddsF (fun s=>g (f s)):=fun m=>by
 obtain ⟨D,m1,h1⟩:=hf m
 obtain ⟨E,m2,h2⟩:=hg m1
 exact ⟨fun i=>D i+E i,m2,fun c hc=>by
  show g (f ⟨c,m⟩)=_
  rw [h1 c hc,h2 _ (plusC_cw hc D),plusC_plus]⟩
theorem AddsF.of_eq {f g:PS→PS} (h:AddsF g) (e:∀ s,f s=g s):AddsF f:=by rw [show f=g from funext e];exact h
theorem AddsF.loop {f:Nat→PS→PS} (hf:∀ i,AddsF (f i)):∀ j,AddsF (loopA f j)
 | 0=>AddsF.id
 | j+1=>AddsF.of_eq (AddsF.comp (AddsF.loop hf j) (hf j)) (fun _=>rfl)
theorem adds_chg {k:Int} (hk:k≠2) (xs:List E) (hx:cellL xs=false):AddsF (fun s=>⟨chgC k s.c ((exVs s.c s.m xs).getD 0 0) ((exVs s.c s.m xs).getD 1 0),s.m⟩):=fun m=>by
 by_cases hi:inC ((exVs blankP m xs).getD 0 0)
 ·by_cases h3:k=3
  ·refine ⟨fun j=>if j=((exVs blankP m xs).getD 0 0).toNat then (exVs blankP m xs).getD 1 0 else 0,m,fun c hc=>?_⟩
   dsimp only
   rw [blind_L c blankP m xs hx]
   unfold chgC
   rw [if_pos hi,if_neg hk,if_pos h3,plusC_set hc hi]
  ·by_cases h4:k=4
   ·refine ⟨fun j=>if j=((exVs blankP m xs).getD 0 0).toNat then -(exVs blankP m xs).getD 1 0 else 0,m,fun c hc=>?_⟩
    dsimp only
    rw [blind_L c blankP m xs hx]
    unfold chgC
    rw [if_pos hi,if_neg hk,if_neg h3,if_pos h4,Int.sub_eq_add_neg,plusC_set hc hi]
   ·refine ⟨fun _=>0,m,fun c hc=>?_⟩
    dsimp only
    rw [chg_out (by omega),plusC_zero hc]
 ·refine ⟨fun _=>0,m,fun c hc=>?_⟩
  dsimp only
  rw [blind_L c blankP m xs hx]
  unfold chgC
  rw [if_neg hi,plusC_zero hc]
mutual
theorem adds_S:∀ x:St,hasS 2 2 x=false→hasS 5 5 x=false→readS x=false→AddsF (pgS x)
 | .mk k nm xs n bd els p,h2,h5,hr=>by
  unfold hasS at h2 h5
  unfold readS at hr
  simp only [Bool.or_eq_false_iff,Bool.and_eq_false_iff,decide_eq_false_iff_not] at h2 h5 hr
  obtain ⟨k2,b2,e2⟩:=h2
  obtain ⟨k5,b5,e5⟩:=h5
  obtain ⟨hx,br,er⟩:=hr
  have ib:=adds_B bd b2 b5 br
  have ie:=adds_B els e2 e5 er
  by_cases h1:k=1
  ·refine fun m=>⟨fun _=>0,nput m nm ((exVs blankP m xs).getD 0 0),fun c hc=>?_⟩
   unfold pgS
   rw [if_pos h1,plusC_zero hc]
   dsimp only
   rw [blind_L c blankP m xs hx]
  ·by_cases h6:k=6
   ·intro m
    by_cases hv:(exVs blankP m xs).getD 0 0≠0
    ·obtain ⟨D,m',h⟩:=ib m
     refine ⟨D,m',fun c hc=>?_⟩
     unfold pgS
     rw [if_neg h1,if_pos h6]
     dsimp only
     rw [blind_L c blankP m xs hx,if_pos hv,h c hc]
    ·obtain ⟨D,m',h⟩:=ie m
     refine ⟨D,m',fun c hc=>?_⟩
     unfold pgS
     rw [if_neg h1,if_pos h6]
     dsimp only
     rw [blind_L c blankP m xs hx,if_neg hv,h c hc]
   ·by_cases h7:k=7
    ·refine AddsF.of_eq (g:=loopA (fun i s=>pgB bd ⟨s.c,nput s.m nm (i:Int)⟩) n.toNat) (AddsF.loop (fun i m=>?_) _) (fun s=>?_)
     ·exact ib (nput m nm (i:Int))
     ·unfold pgS
      rw [if_neg h1,if_neg h6,if_pos h7]
    ·by_cases h8:k=8
     ·refine AddsF.of_eq (g:=loopA (fun i s=>pgB bd ⟨s.c,nput s.m nm (n - 1 - (i:Int))⟩) n.toNat) (AddsF.loop (fun i m=>?_) _) (fun s=>?_)
      ·exact ib (nput m nm (n - 1 - (i:Int)))
      ·unfold pgS
       rw [if_neg h1,if_neg h6,if_neg h7,if_pos h8]
     ·refine AddsF.of_eq (adds_chg (k:=k) (by omega) xs hx) (fun s=>?_)
      unfold pgS
      rw [if_neg h1,if_neg h6,if_neg h7,if_neg h8,if_neg (by omega)]
theorem adds_B:∀ xs:List St,hasB 2 2 xs=false→hasB 5 5 xs=false→readB xs=false→AddsF (pgB xs)
 | [],_,_,_=>AddsF.of_eq AddsF.id (fun s=>pgB_nil s)
 | x :: xs,h2,h5,hr=>by
  unfold hasB at h2 h5
  unfold readB at hr
  simp only [Bool.or_eq_false_iff] at h2 h5 hr
  exact AddsF.of_eq (AddsF.comp (adds_S x h2.1 h5.1 hr.1) (adds_B xs h2.2 h5.2 hr.2)) (fun s=>pgB_cons x xs s)
end
theorem adds_run {d:Df} (hf:(opS CS.new d).flt=none) (hm:modeF d=2) {av:List Int} (hl:av.length=d.params.length) :
  ∃ (ok:Bool) (D:Nat→Int) (g:Int),∀ n c,CW c→runP d n c av=if ok=true then ((n,plusC c D),g,0) else ((0,blankP),0,12):=by
 unfold modeF at hm
 split at hm
 ·omega
 ·split at hm
  ·rename_i h1 h2
   obtain ⟨b2,b5,br,cn,cg⟩:=h2
   obtain ⟨D,m',hB⟩:=adds_B d.body b2 b5 br (mP d.params av)
   refine ⟨!((exVs blankP (mP d.params av) d.needs).any (fun v=>v == 0)),D,(exVs blankP m' d.give).getD 0 0,fun n c hc=>?_⟩
   unfold runP
   rw [hf,if_neg (show ¬ (none:Option (Int×Int)).isSome=true by decide),if_neg (by simpa using hl),blind_L c blankP _ _ cn,hB c hc]
   dsimp only
   rw [blind_L (plusC c D) blankP m' _ cg]
   cases hq:(exVs blankP (mP d.params av) d.needs).any (fun v=>v == 0)
   ·rw [if_neg (by decide),if_pos (by decide)]
   ·rw [if_pos rfl,if_neg (by decide)]
  ·omega
theorem mode_of {d:Df} (hw:Whole d) (hp:pB d.body) {im:Int} {a b:Nat} {t:Bool} {c p:Int} (hi:chkD d=(⟨im,a,b,t⟩,c,p)) (hc:c=0):(opS CS.new d).flt=none∧modeF d=im:=by
 have h1:=chkD_flt d
 rw [hi] at h1
 cases hf:(opS CS.new d).flt with
 | some x=>
  obtain ⟨c',p'⟩:=x
  rw [hf] at h1
  have h2:c'=c:=congrArg Prod.fst h1
  exact absurd (h2.trans hc) (code_ne hw hf)
 | none=>
  refine ⟨rfl,?_⟩
  unfold chkD at hi
  rw [hf] at hi
  have h3:=congrArg (fun x=>x.1.mode) hi
  dsimp only at h3
  rw [(info_of hw hp hf).1] at h3
  exact h3
end Go.Proofs.Ytiaeagpepfmfgaa
