import Derived.Test.YtiaeagpepfmfgaaWar
import Derived.Test.YtiaeagpepfmfgaaZgr
namespace Go.Proofs.Ytiaeagpepfmfgaa
open Go.RowKit Go.Maps
set_option linter.unusedSimpArgs false
set_option linter.unusedVariables false
theorem mix_set (n:Int) {c c9:List Int} {k:Nat} (h9:c9.length=60) (h:c.length=60) (hk:k < 60):(n :: (c9.take k++c.drop k)).set (1+k) (c9.getD k 0)=n :: (c9.take (k+1)++c.drop (k+1)):=by
 have ht:(c9.take k).length=k:=by rw [List.length_take,h9];omega
 have hd:c.drop k=c[k]'(by omega) :: c.drop (k+1):=List.drop_eq_getElem_cons (by omega)
 have hg:c9[k]?=some (c9.getD k 0):=by rw [List.getD_eq_getElem?_getD,List.getElem?_eq_getElem (by omega)];rfl
 rw [Nat.add_comm,List.set_cons_succ,List.set_append_right _ _ (by omega),ht,Nat.sub_self,hd,List.set_cons_zero,List.take_add_one,hg]
 simp
set_option maxRecDepth 100000 in
set_option maxHeartbeats 32000000 in
theorem rrun_any {w:World} {B:Nat→Prop} {d:Df} {cs:List Value} {n:Int} {c l:List Int} {v:Value} (hd:DV w B d cs) (hw:Whole d) (hp:pB d.body) (hg:Good d) (hc:CW c) (hv:IntsV w v l) (hl:l.length≤maxLen) :
    Calls Try.prog 13 #[.agg cs.toArray,.agg (ivA (n :: c)),v] w (DunPost w (runD d n c l)):=by
  obtain ⟨v1,v2,v3,v4,rfl,hv1,hv2,hv3,hv4⟩:=id hd
  obtain ⟨a1,c1,rfl,-⟩:=hv1
  obtain ⟨a2,c2,rfl,-⟩:=hv2
  obtain ⟨a3,c3,rfl,-⟩:=hv3
  obtain ⟨a4,c4,rfl,-⟩:=hv4
  obtain ⟨a0,c0,rfl,-⟩:=id hv
  have HV:=Hd hv
  have HD:=Hd hd.lt
  have HC:=Hd hc
  obtain ⟨R,hR⟩:∃ R,R=runD d n c l:=⟨_,rfl⟩
  rw [← hR]
  unfold runD at hR
  have HR:=Hd hR
  obtain ⟨sn,hsn⟩:∃ sn,sn=strOf d.name:=⟨_,rfl⟩
  obtain ⟨L0,hL0⟩:∃ L,L=l.length:=⟨_,rfl⟩
  obtain ⟨L1,hL1⟩:∃ L,L=d.params.length:=⟨_,rfl⟩
  obtain ⟨L2,hL2⟩:∃ L,L=d.needs.length:=⟨_,rfl⟩
  obtain ⟨L3,hL3⟩:∃ L,L=d.body.length:=⟨_,rfl⟩
  obtain ⟨L4,hL4⟩:∃ L,L=d.give.length:=⟨_,rfl⟩
  rw [← hsn,← hL1,← hL2,← hL3,← hL4] at HD
  rw [← hsn,← hL0,← hL1,← hL2,← hL3,← hL4]
  have HPT:=Hd HD.out.parts
  have HL0:=Hd hL0
  have HL1:=Hd hL1
  have HL2:=Hd hL2
  have HL4:=Hd hL4
  have HWH:=Hd hw
  have HP:=Hd hp
  have HG:=Hd hg
  have h60:=hc.len
  rw [← hL0] at hl
  unfold maxLen at hl
  have H60:=Hd h60
  have H61:=Hd (show (n :: c).length=61 by rw [List.length_cons,h60])
  have hp480:L1≤480:=by rw [hL1];exact hw.plen
  have hz480:sizeSs d.body≤480:=by have:=hw.size;omega
  have HZ480:=Hd hz480
  clear hd hv hc hw hp hg hR hsn hL0 hL1 hL2 hL3 hL4 h60 hz480
  go_enter Try.func13,Try.ntmps13
  have T1:=trivial
  have T2:=trivial
  go_upto_region 1 with (first
    | (clear T1
       refine wpList_box_page rfl _ rfl (n :: c) (by rfl) ?_
       intro w1 gp hbp hgp hop
       have HBP:=Hd hbp
       have HGP:=Hd hgp
       have HOP:=Hd hop
       clear hbp hgp hop)
    | (clear T2
       refine wpList_new_page rfl rfl ?_
       intro w2 gr hbr hgr hor
       have HBR:=Hd hbr
       have HGR:=Hd hgr
       have HOR:=Hd hor
       clear hbr hgr hor))
  have oA:Only [] w (w.alloc (.cells #[.string sn,.slice a1 L1 c1,.slice a2 L2 c2,.slice a3 L3 c3,.slice a4 L4 c4] 30)):=(Only.refl _ _).alloc _
  have hA:=heap_new w (.cells #[.string sn,.slice a1 L1 c1,.slice a2 L2 c2,.slice a3 L3 c3,.slice a4 L4 c4] 30)
  have hsA:(w.alloc (.cells #[.string sn,.slice a1 L1 c1,.slice a2 L2 c2,.slice a3 L3 c3,.slice a4 L4 c4] 30)).heap.size=w.heap.size+1:=Array.size_push _
  have hgp:=HGP.out
  rw [hsA] at hgp
  have hgr:gp < gr:=by have:=HBP.out.lt;have:=HGR.out;omega
  have HO:=Hd ((oA.trans HOP.out (by simp)).trans HOR.out (by simp))
  have HY:=Hd (HOR.out.heap (HOP.out.heap hA (by simp)) (by simp))
  have HPG:=Hd (HBP.out.kept HOR.out (by simp))
  clear oA hA hsA HGP HOP HOR HGR HBP
  have hD2:=HD.out.kept HO.out (by simp) (fun _ h=>h)
  have K1:=rcheck_any hD2 HWH.out HP.out
  have y0:w2.cell? ⟨w.heap.size,0,none⟩=some (.string sn):=cell_at 0 HY.out
  have y1:w2.cell? ⟨w.heap.size,1,none⟩=some (.slice a1 L1 c1):=cell_at 1 HY.out
  have y2:w2.cell? ⟨w.heap.size,2,none⟩=some (.slice a2 L2 c2):=cell_at 2 HY.out
  have y3:w2.cell? ⟨w.heap.size,3,none⟩=some (.slice a3 L3 c3):=cell_at 3 HY.out
  have y4:w2.cell? ⟨w.heap.size,4,none⟩=some (.slice a4 L4 c4):=cell_at 4 HY.out
  clear hD2
  go_wp2_with fail
  refine K1.mono ?_
  rintro e w3 ⟨rfl,o3⟩
  replace HO:=Hd (HO.out.trans o3 (by simp))
  replace HY:=Hd (o3.heap HY.out (by simp))
  replace HPG:=Hd (HPG.out.kept o3 (by simp))
  replace HBR:=Hd (HBR.out.kept o3 (by simp))
  obtain ⟨i0,ci0,pi0,hi0⟩:∃ i c p,chkD d=(i,c,p):=⟨_,_,_,rfl⟩
  have hci:((opS CS.new d).flt=none→ci0=0)∧((opS CS.new d).flt≠none→ci0≠0):=by
    unfold chkD at hi0
    cases hf:(opS CS.new d).flt with
    | none=>rw [hf] at hi0;cases hi0;exact ⟨(fun _=>rfl),(fun h=>absurd rfl h)⟩
    | some x=>
      obtain ⟨cc,pp⟩:=x
      rw [hf] at hi0
      cases hi0
      exact ⟨(fun h=>by cases h),(fun _=>code_ne HWH.out hf)⟩
  have HCI:=Hd hci
  rw [hi0]
  obtain ⟨im,ist,inn,itu⟩:=i0
  unfold infoV
  dsimp only
  obtain ⟨st',hst⟩:∃ x:Int,x=ist:=⟨_,rfl⟩
  obtain ⟨nm',hnm⟩:∃ x:Int,x=inn:=⟨_,rfl⟩
  rw [← hst,← hnm]
  clear K1 o3 hi0 hst hnm hci y0 y1 y2 y3 y4
  go_upto_region 2 with (fail)
  have o4:=(Only.refl [] w3).alloc (.cells #[.int .i64 im,.int .i64 st',.int .i64 nm',.bool itu] 47)
  generalize w3.alloc (.cells #[.int .i64 im,.int .i64 st',.int .i64 nm',.bool itu] 47)=w4 at o4⊢
  replace HO:=Hd (HO.out.trans o4 (by simp))
  replace HY:=Hd (o4.heap HY.out (by simp))
  replace HPG:=Hd (HPG.out.kept o4 (by simp))
  replace HBR:=Hd (HBR.out.kept o4 (by simp))
  clear o4
  cases hflt:(opS CS.new d).flt with
  | some x=>
    have hci:=HCI.out.2 (by rw [hflt];exact fun h=>by cases h)
    have hcb:(ci0 != 0)=true:=by simpa using hci
    have hRR:=HR.out
    rw [hflt,if_pos (show (some x).isSome=true from rfl)] at hRR
    have HRR:=Hd hRR
    clear hRR hflt hci
    go_wp2_with (first
      | (refine wpList_built rfl [] rfl (0 :: blankP) built_none ?_)
      | (refine wpList_store_page rfl _ _ rfl gr (0 :: blankP) (by rfl) (by rfl) (by rfl) _ HBR.out (by rfl) ?_
         intro wy hby hoy))
    have ho6:=HO.out.trans hoy (fun k hk=>.inr (by rw [List.mem_singleton.1 hk];omega))
    (try simp only [Exit.inBlock,Exit.then])
    refine bodyPost_ret (results_page3 rfl _ _ gr _ _ _ (by rfl) (by rfl) (by rfl) hby (by rfl)) rfl ?_
    unfold DunPost
    rw [HRR.out]
    exact ⟨rfl,ho6⟩
  | none=>
    have hci:=HCI.out.1 hflt
    subst hci
    have hRR:=HR.out
    rw [hflt,if_neg (show ¬ (none:Option (Int×Int)).isSome=true by decide)] at hRR
    replace HR:=Hd hRR
    have HFL:=Hd hflt
    have y1:w4.cell? ⟨w.heap.size,1,none⟩=some (.slice a1 L1 c1):=cell_at 1 HY.out
    clear hRR hflt HCI
    by_cases hll:L0=L1
    · as_aux_lemma=>
        have hRR:=HR.out
        rw [if_neg (by rw [← HL0.out,← HL1.out];simpa using hll)] at hRR
        replace HR:=Hd hRR
        clear hRR
        subst hll
        have hllb:((L0:Int) != (L0:Int))=false:=by simp
        go_wp2_with fail
        clear y1
        go_loopw [12,13] (fun ev ix wr=>∃ j:Nat,j≤L0∧ix=.int .i64 (j:Int)∧Hid (ZI w4 wr ev ((d.params.zip l).take j))) (fun ev ix _=>L0 - (intOf ix).toNat)
        case atStart=>exact ⟨0,Nat.zero_le _,rfl,Hd ⟨Only.refl _ _,by simpa using OVe.nil w4,fun q hq=>by cases hq⟩⟩
        case round=>
          obtain ⟨j,hjl,rfl,HK⟩:=hrel
          have hsh:=HK.out.e.shape
          rw [List.length_take,List.length_zip,← HL1.out,← HL0.out,show min j (min L0 L0)=j by omega] at hsh
          obtain ⟨ua,uc,rfl⟩:=hsh
          have HWR:=Hd (HO.out.trans HK.out.o (by simp))
          by_cases hlt:j < L0
          · as_aux_lemma=>
              have hlt':(j:Int) < (L0:Int):=by omega
              have j0:(0:Int)≤(j:Int):=by omega
              obtain ⟨pn,hpn⟩:∃ e,d.params[j]?=some e:=⟨_,List.getElem?_eq_getElem (by rw [← HL1.out];exact hlt)⟩
              obtain ⟨az,haz⟩:∃ e,l[j]?=some e:=⟨_,List.getElem?_eq_getElem (by rw [← HL0.out];exact hlt)⟩
              obtain ⟨gq,rfl,-,hes⟩:=HPT.out.1.nth hpn
              obtain ⟨haz64,bq,offq,rfl,hbqw,hcz⟩:=HV.out.nth haz
              have x0:wr.cell? ⟨gq,j,none⟩=some (.string (strOf pn)):=cell_kept HWR.out hes (by simp)
              have x1:wr.cell? ⟨bq,offq+j,none⟩=some (.int .i64 az):=cell_kept HWR.out hcz (by simp)
              have hgqw:gq < w.heap.size:=World.block_lt_of_cell? _ _ hes
              have hw4:w.heap.size < w4.heap.size:=lt_of_heap HY.out
              have hsnoc:(d.params.zip l).take (j+1)=(d.params.zip l).take j++[(pn,az)]:=zip_snoc hpn haz
              obtain ⟨zl,hzl⟩:∃ zl,zl=(d.params.zip l).take j:=⟨_,rfl⟩
              have hzn:zl.length=j:=by rw [hzl,List.length_take,List.length_zip,← HL1.out,← HL0.out];omega
              rw [← hzl] at HK hsnoc
              obtain ⟨sp,hsp⟩:∃ sp,sp=strOf pn:=⟨_,rfl⟩
              rw [← hsp] at x0
              have HSP:=Hd hsp
              have HSNO:=Hd hsnoc
              have HY4:=HY
              replace HY4:=Hd (HK.out.o.heap HY.out (by simp))
              have y1:wr.cell? ⟨w.heap.size,1,none⟩=some (.slice (some ⟨gq,0,none⟩) L0 c1):=cell_at 1 HY4.out
              clear hsp hsnoc hpn haz hes hcz hzl
              go_upto_region 10 with (fail)
              have oD:Only [] wr wr.drew:=(Only.refl [] wr).drew
              refine wp_region_held_drew (S:=fun w'=>w'.cell? ⟨w.heap.size,1,none⟩=some (.slice (some ⟨gq,0,none⟩) L0 c1)∧w'.cell? ⟨gq,j,none⟩=some (.string sp)∧w'.cell? ⟨bq,offq+j,none⟩=some (.int .i64 az)) (by kernel_rfl) ⟨cell_kept oD y1 (by simp),cell_kept oD x0 (by simp),cell_kept oD x1 (by simp)⟩ (fun hH=>?_)
              have HKD:=Hd (HK.out.quiet oD)
              clear oD y1 x0 x1
              generalize wr.drew=wd at HKD hH⊢
              refine tk 0 hH ?_
              refine tk 1 hH ?_
              refine tk 2 hH ?_
              refine tk 3 hH ?_
              refine tk 4 hH ?_
              refine tk 5 hH ?_
              refine tk 6 hH ?_
              refine tk 7 hH ?_
              refine tk 8 hH ?_
              refine tk 9 hH ?_
              refine tk 10 hH ?_
              refine rd 11 (fun K hK=>?_)
              go_simp
              have oN:=(Only.refl [] wd).alloc (.cells #[.string sp,.int .i64 az] 75)
              have hN:=heap_new wd (.cells #[.string sp,.int .i64 az] 75)
              obtain ⟨gn,hgn⟩:∃ gn,gn=wd.heap.size:=⟨_,rfl⟩
              rw [← hgn] at hN⊢
              generalize wd.alloc (.cells #[.string sp,.int .i64 az] 75)=wa at oN hN⊢
              have HNn:=Hd hN
              have HKA:=Hd (HKD.out.quiet oN)
              refine hK.out _ _ ⟨cell_kept oN hH.1 (by simp),cell_kept oN hH.2.1 (by simp),cell_kept oN hH.2.2 (by simp)⟩ (fun hH=>?_)
              clear hK K oN hN hgn
              refine rd 12 (fun K hK=>?_)
              refine step_append_ve (by rfl) (.tmp 41) (.tmp 52) (by rfl) (.slice ua j uc) zl (by rfl) HKA.out.e gn 1 (by rfl) (pn,az) (by rw [← HSP.out];exact cell_at 0 HNn.out) (cell_at 1 HNn.out) (by omega) (fun a6 c6 wz h6 x6=>?_)
              have hk6:=HKA.out.grow h6 x6
              rw [hzn] at hk6 x6⊢
              rw [← HSNO.out] at hk6
              have HK6:=Hd hk6
              have hne:=fun q (hq:q∈(Value.slice ua j uc).ownBlock.toList)=>HKA.out.n q (by simpa using hq)
              refine hK.out _ _ ⟨cell_kept x6.only hH.1 (fun hq=>absurd (show w4.heap.size≤w.heap.size from hne _ hq) (by omega)),cell_kept x6.only hH.2.1 (fun hq=>absurd (show w4.heap.size≤gq from hne _ hq) (by omega)),cell_kept x6.only hH.2.2 (fun hq=>absurd (show w4.heap.size≤bq from hne _ hq) (by omega))⟩ (fun hH=>?_)
              clear hK K h6 x6 hk6 hne HKA HNn
              refine tk 13 hH ?_
              refine wpAnyH_done (by kernel_rfl) ?_ _
              clear hH
              go_wp2_with fail
              refine ⟨⟨j+1,by omega,by first | rfl | go_num,HK6⟩,?_⟩
              simp [intOf]
              omega
          · as_aux_lemma=>
              obtain rfl:j=L0:=by omega
              have hzi:=HK.out
              rw [List.take_of_length_le (by rw [List.length_zip,← HL1.out,← HL0.out];omega)] at hzi
              have hnf:NoF (d.params.zip l):=zip_nof HG.out.params
              have hnw:NW (lastE (d.params.zip l)):=nw_last _ (fun x hx=>ints_n64 HV.out _ (List.of_mem_zip (a:=x.1) (b:=x.2) hx).2)
              have hel:(d.params.zip l).length=j:=by rw [List.length_zip,← HL1.out,← HL0.out];omega
              have hRR:=HR.out
              unfold mP dnB at hRR
              generalize d.params.zip l=env at hzi hnf hnw hel hRR
              have HR2:=Hd hRR
              have HZI:=Hd hzi
              have HDW:=Hd (show DW c env from ⟨HC.out,hnw,hnf⟩)
              have HEL:=Hd hel
              have HPGr:=Hd (HPG.out.kept HK.out.o (by simp))
              have HBRr:=Hd (HBR.out.kept HK.out.o (by simp))
              have HYr:=Hd (HK.out.o.heap HY.out (by simp))
              have hgr4:gr < wr.heap.size:=HBRr.out.lt
              clear hzi hnf hnw hel hRR HR HK HO HPG HBR HY HV hlt
              go_wp2_with (refine wpList_append_ces rfl (.tmp 54) (.tmp 56) rfl (.slice (some ⟨wr.heap.size,0,none⟩) 0 0) (by rfl) (OCe.empty _) gp 1 60 60 c (by rfl) H60.out (fun q z hq=>((HPGr.out.kept ((Only.refl [] wr).alloc _) (by simp)).cell (by rw [Nat.add_comm,List.getElem?_cons_succ];exact hq))) (by decide) (by decide) ?_;intro a7 c7 w7 h7 x7;have H7:=Hd (And.intro h7 x7);clear h7 x7)
              obtain ⟨h7,x7⟩:=H7.out
              have o7:Only [] wr w7:=((Only.refl [] wr).alloc _).trans x7.only (fun q hq=>.inr (by
                have:=hq
                simp [Value.ownBlock] at this
                omega))
              obtain ⟨gc,hgc⟩:=h7.block (by rw [H60.out];decide)
              have hgcw:wr.heap.size≤gc:=by
                rcases x7.src gc hgc with e | e
                · have:=e
                  simp [Value.ownBlock] at this
                  omega
                · exact Nat.le_trans (((Only.refl [] wr).alloc (.cells #[] 3)).size) e
              obtain ⟨cap7,cur7,e7,hb7,-⟩:=h7.blk hgc
              rw [H60.out] at e7
              cases e7
              have hgcw7:gc < w7.heap.size:=lt_of_heap hb7
              have HCE:=Hd h7
              have HGC:=Hd hgc
              have HEN:=Hd (HZI.out.quiet o7).e
              have HW7:=Hd (HWR.out.trans o7 (by simp))
              replace HPGr:=Hd (HPGr.out.kept o7 (by simp))
              replace HBRr:=Hd (HBRr.out.kept o7 (by simp))
              replace HYr:=Hd (o7.heap HYr.out (by simp))
              have hwb:w.heap.size≤wr.heap.size:=HWR.out.size
              have hL2b:L2≤1000000:=by have:=sizeL_ge d.needs;have:=HWH.out.size;have:=HL2.out;omega
              clear h7 x7 H7 o7 hgc HZI HWR hb7
              go_loopw [15] (fun ia wq=>∃ q:Nat,q≤L2∧ia=.int .i64 (q:Int)∧Hid (((exVs c (lastE env) d.needs).take q).any (fun v=>v == 0)=false)∧Hid (Only [] w7 wq)) (fun ia _=>L2 - (intOf ia).toNat)
              case atStart=>exact ⟨0,Nat.zero_le _,rfl,Hd (by simp),Hd (Only.refl _ _)⟩
              case round=>
                obtain ⟨q,hql2,rfl,HA,HQ⟩:=hrel
                generalize wr=wq at HQ⊢
                have HWQ:=Hd (HW7.out.trans HQ.out (by simp))
                have HYq:=Hd (HQ.out.heap HYr.out (by simp))
                by_cases hlt:q < L2
                · as_aux_lemma=>
                    have hlt':(q:Int) < (L2:Int):=by omega
                    have q0:(0:Int)≤(q:Int):=by omega
                    obtain ⟨e,he⟩:∃ e,d.needs[q]?=some e:=⟨_,List.getElem?_eq_getElem (by rw [← HL2.out];exact hlt)⟩
                    obtain ⟨gq,rfl,-,hes⟩:=HPT.out.2.1.nth he
                    obtain ⟨k1,n1,sn1,b1,l1,d1,p1,hev1,hat1⟩:=hes.at5 he
                    have hat:=hat1.kept HWQ.out (by simp)
                    have z0:=hat.c0
                    have z1:=hat.c1
                    have z2:=hat.c2
                    have z3:=hat.c3
                    have z4:=hat.c4
                    have hve:(exVs c (lastE env) d.needs)[q]?=some (exV c (lastE env) e):=by rw [exVs_get,he];rfl
                    have KX:=rvalue_any ((HCE.out.kept HQ.out (by simp)).cer HC.out) (HEN.out.kept HQ.out (by simp)) HDW.out.nf HDW.out.nw (by rw [HEL.out];omega) (wL_mem HWH.out.needs he) (gL_mem HG.out.needs he) (hev1.quiet HWQ.out)
                    have y2:wq.cell? ⟨w.heap.size,2,none⟩=some (.slice (some ⟨gq,0,none⟩) L2 c2):=cell_at 2 HYq.out
                    clear hes hat1 hat he hev1
                    generalize exV c (lastE env) e=V at KX hve
                    have HVE:=Hd hve
                    clear hve
                    go_wp2_with fail
                    refine KX.mono ?_
                    rintro en w9 ⟨rfl,o9⟩
                    have HQ9:=Hd (HQ.out.trans o9 (by simp))
                    clear KX o9 y2 z0 z1 z2 z3 z4
                    by_cases hV0:V=0
                    · subst hV0
                      have hany:(exVs c (lastE env) d.needs).any (fun v=>v == 0)=true:=List.any_eq_true.2 ⟨0,List.mem_of_getElem? HVE.out,rfl⟩
                      have hRR:=HR2.out
                      rw [if_pos hany] at hRR
                      have HRR:=Hd hRR
                      have HB9:=Hd (HBRr.out.kept HQ9.out (by simp))
                      have HO9:=Hd (HW7.out.trans HQ9.out (by simp))
                      clear hany hRR
                      go_wp2_with (first
                        | (refine wpList_built rfl [] rfl (0 :: blankP) built_none ?_)
                        | (refine wpList_store_page rfl _ _ rfl gr (0 :: blankP) (by rfl) (by rfl) (by rfl) _ HB9.out (by rfl) ?_
                           intro wy hby hoy))
                      have ho6:=HO9.out.trans hoy (fun k hk=>.inr (by rw [List.mem_singleton.1 hk];omega))
                      (try simp only [Exit.inBlock,Exit.then])
                      refine bodyPost_ret (results_page3 rfl _ _ gr _ _ _ (by rfl) (by rfl) (by rfl) hby (by rfl)) rfl ?_
                      unfold DunPost
                      rw [HRR.out]
                      exact ⟨rfl,ho6⟩
                    · have hV1:(V == 0)=false:=by simpa using hV0
                      have HA1:=Hd (show ((exVs c (lastE env) d.needs).take (q+1)).any (fun v=>v == 0)=false by
                        rw [List.take_add_one,HVE.out,List.any_append,HA.out]
                        simpa using hV0)
                      go_wp2_with fail
                      refine ⟨⟨q+1,by omega,by go_num,HA1,HQ9⟩,?_⟩
                      simp [intOf]
                      omega
                · as_aux_lemma=>
                    obtain rfl:q=L2:=by omega
                    have hany:=HA.out
                    rw [List.take_of_length_le (by rw [exVs_length,HL2.out];omega)] at hany
                    have hRR:=HR2.out
                    rw [if_neg (by rw [hany];decide)] at hRR
                    have hok:OkD d.body:=by
                      have h1:=okB_of HWH.out HP.out HG.out HFL.out
                      exact ⟨h1.w,h1.g,h1.few⟩
                    have KX:=dblk9_all (sizeSs d.body) (by have:=HZ480.out;omega) _ (Nat.le_refl _) d.body (Nat.le_refl _) wq gc _ c _ _ env _ (HCE.out.kept HQ.out (by simp)) HGC.out HDW.out hok (HEN.out.kept HQ.out (by simp)) (HPT.out.2.2.1.kept HWQ.out (by simp) (fun _ h=>h)) (fun h=>by omega) (by rw [HEL.out];have:=HZ480.out;omega)
                    have hw2:=dcB_w d.body (c,env) hok.w hok.g hok.few HDW.out.cw HDW.out.nw HDW.out.nf
                    have HBRq:=Hd (HBRr.out.kept HQ.out (by simp))
                    have HPGq:=Hd (HPGr.out.kept HQ.out (by simp))
                    have y2:wq.cell? ⟨w.heap.size,2,none⟩=some (.slice a2 q c2):=cell_at 2 HYq.out
                    have y3:wq.cell? ⟨w.heap.size,3,none⟩=some (.slice a3 L3 c3):=cell_at 3 HYq.out
                    obtain ⟨c9,env9,hx9⟩:∃ c9 env9,dcB d.body (c,env)=(c9,env9):=⟨_,_,rfl⟩
                    rw [hx9] at KX hw2 hRR
                    dsimp only at hw2 hRR
                    obtain ⟨hcw9,hnw9,hnf9,hen9⟩:=hw2
                    have HRR:=Hd hRR
                    have HDW9:=Hd (show DW c9 env9 from ⟨hcw9,hnw9,hnf9⟩)
                    have hen10:env9.length≤1000000:=by rw [HEL.out] at hen9;have:=HZ480.out;omega
                    clear hany hRR HA hok hx9 hcw9 hnw9 hnf9 hen9
                    go_wp2_with fail
                    refine KX.mono ?_
                    rintro en w10 ⟨ve9,rfl,hb10⟩
                    have o10:=hb10.o
                    have HCE10:=Hd hb10.ce
                    have HEN10:=Hd hb10.e
                    have hgcw8:w.heap.size < gc:=by omega
                    have hgn1:w.heap.size∉[gc]:=by simp;omega
                    have hgn2:gp∉[gc]:=by simp;omega
                    have hgn3:gr∉[gc]:=by simp;omega
                    have HW10:=Hd (HWQ.out.trans o10 (fun k hk=>.inr (by rw [List.mem_singleton.1 hk];omega)))
                    have HY10:=Hd (o10.heap HYq.out hgn1)
                    have HB10:=Hd (HBRq.out.kept o10 hgn3)
                    have HP10:=Hd (HPGq.out.kept o10 hgn2)
                    clear KX y2 y3 o10 hb10 HBRq HPGq HYq
                    have hsh9:=HEN10.out.shape
                    obtain ⟨ua9,uc9,rfl⟩:=hsh9
                    have hone:L4≤1:=by rw [HL4.out];exact HWH.out.one
                    go_wp2_with fail
                    go_loopw [16,17] (fun ia ib wz=>∃ r:Nat,r≤L4∧ib=.int .i64 (r:Int)∧(∃ gv,ia=.int .i64 gv∧Hid (gv=if r=0 then 0 else (exVs c9 (lastE env9) d.give).getD 0 0))∧Hid (Only [] w10 wz)) (fun ia ib _=>L4 - (intOf ib).toNat)
                    case atStart=>exact ⟨0,Nat.zero_le _,rfl,⟨0,rfl,Hd rfl⟩,Hd (Only.refl _ _)⟩
                    case round=>
                      obtain ⟨r,hrl4,rfl,⟨gv,rfl,HGV⟩,HZ⟩:=hrel
                      generalize wr=wz at HZ⊢
                      have HWZ:=Hd (HW10.out.trans HZ.out (by simp))
                      have HYz:=Hd (HZ.out.heap HY10.out (by simp))
                      by_cases hlt:r < L4
                      · as_aux_lemma=>
                          have hlt':(r:Int) < (L4:Int):=by omega
                          obtain rfl:r=0:=by omega
                          obtain ⟨e,he⟩:∃ e,d.give[0]?=some e:=⟨_,List.getElem?_eq_getElem (by rw [← HL4.out];exact hlt)⟩
                          obtain ⟨gq,rfl,-,hes⟩:=HPT.out.2.2.2.nth he
                          obtain ⟨k1,n1,sn1,b1,l1,d1,p1,hev1,hat1⟩:=hes.at5 he
                          have hat:=hat1.kept HWZ.out (by simp)
                          have z0:wz.cell? ⟨gq,0,none⟩=some (.int .i64 k1):=hat.c0
                          have z1:wz.cell? ⟨gq,1,none⟩=some (.int .i64 n1):=hat.c1
                          have z2:wz.cell? ⟨gq,2,none⟩=some (.string sn1):=hat.c2
                          have z3:wz.cell? ⟨gq,3,none⟩=some (.slice b1 l1 d1):=hat.c3
                          have z4:wz.cell? ⟨gq,4,none⟩=some (.int .i64 p1):=hat.c4
                          have hve:(exVs c9 (lastE env9) d.give).getD 0 0=exV c9 (lastE env9) e:=by rw [List.getD_eq_getElem?_getD,exVs_get,he];rfl
                          have KX:=rvalue_any ((HCE10.out.kept HZ.out (by simp)).cer HDW9.out.cw) (HEN10.out.kept HZ.out (by simp)) HDW9.out.nf HDW9.out.nw hen10 (wL_mem HWH.out.give he) (gL_mem HG.out.give he) (hev1.quiet HWZ.out)
                          have y4:wz.cell? ⟨w.heap.size,4,none⟩=some (.slice (some ⟨gq,0,none⟩) L4 c4):=cell_at 4 HYz.out
                          obtain ⟨V,hV⟩:∃ V,V=(exVs c9 (lastE env9) d.give).getD 0 0:=⟨_,rfl⟩
                          rw [← hve,← hV] at KX
                          have HGW:=Hd (show V=if 0+1=0 then 0 else (exVs c9 (lastE env9) d.give).getD 0 0 from hV)
                          clear hes hat1 hat he hev1 HGV hve hV
                          go_wp2_with fail
                          refine KX.mono ?_
                          rintro en w12 ⟨rfl,o12⟩
                          have HZ12:=Hd (HZ.out.trans o12 (by simp))
                          clear KX o12 y4 z0 z1 z2 z3 z4
                          go_wp2_with fail
                          refine ⟨⟨0+1,by omega,by go_num,⟨V,rfl,HGW⟩,HZ12⟩,?_⟩
                          simp [intOf]
                          omega
                      · as_aux_lemma=>
                          obtain rfl:r=L4:=by omega
                          have hgv:gv=(exVs c9 (lastE env9) d.give).getD 0 0:=by
                            rw [HGV.out]
                            split
                            · rename_i h0
                              have:d.give=[]:=List.eq_nil_of_length_eq_zero (by rw [← HL4.out];exact h0)
                              rw [this]
                              unfold exVs
                              rfl
                            · rfl
                          have hRR:=HRR.out
                          rw [← hgv] at hRR
                          have HRR2:=Hd hRR
                          have HCZ:=Hd (HCE10.out.kept HZ.out (by simp))
                          have HBZ:=Hd (HB10.out.kept HZ.out (by simp))
                          have HPZ:=Hd (HP10.out.kept HZ.out (by simp))
                          have h9:=HDW9.out.cw.len
                          have H9:=Hd h9
                          have y4:wz.cell? ⟨w.heap.size,4,none⟩=some (.slice a4 r c4):=cell_at 4 HYz.out
                          clear hgv hRR HRR HGV h9 hlt HEN10
                          go_wp2_with fail
                          clear y4
                          have hgcp:gc≠gp:=by omega
                          have hgrp:gr∉[gp]:=by simp;omega
                          go_loopw [18] (fun ik wk=>∃ k:Nat,k≤60∧ik=.int .i64 (k:Int)∧Hid (PB wk gp 35 (n :: (c9.take k++c.drop k)))∧Hid (Only [gp] wz wk)) (fun ik _=>60 - (intOf ik).toNat)
                          case atStart=>exact ⟨0,by omega,rfl,Hd (by simpa using HPZ.out),Hd (Only.refl _ _)⟩
                          case round=>
                            obtain ⟨k,hk,rfl,HPk,HOk⟩:=hrel
                            generalize wr=wk at HPk HOk⊢
                            by_cases hlt:k < 60
                            · as_aux_lemma=>
                                have hlt':(k:Int) < 60:=by omega
                                have k0:(0:Int)≤(k:Int):=by omega
                                have hce:=HCZ.out.kept HOk.out (fun q hq e=>by rw [HGC.out] at e;rw [List.mem_singleton.1 hq] at e;exact hgcp (Option.some.inj e))
                                obtain ⟨x0,-⟩:=hce.cell HGC.out (i:=k) (by rw [H9.out];exact hlt)
                                have hset:=mix_set n (H9.out) H60.out hlt
                                have hlen:(n :: (c9.take k++c.drop k)).length=61:=by simp [H9.out,H60.out];omega
                                have x1:∃ v,wk.cell? ⟨gp,1+k,none⟩=some v:=⟨_,HPk.out.cell (i:=1+k) (List.getElem?_eq_getElem (by rw [hlen];omega))⟩
                                obtain ⟨v2,x1⟩:=x1
                                have x2:wk.frozen? ⟨gp,1+k,none⟩=false:=HPk.out.free _
                                have hb:=HPk.out.set (1+k) (c9.getD k 0)
                                rw [hset] at hb
                                have HPk1:=Hd hb
                                have HOk1:Hid (Only [gp] wz (wk.setCell ⟨gp,1+k,none⟩ (.int .i64 (c9.getD k 0)))):=Hd (HOk.out.setCell (.inl (by simp)) _)
                                generalize c9.getD k 0=V at x0 HPk1 HOk1
                                clear hce hset hlen hb
                                go_wp2_with fail
                                refine ⟨⟨k+1,by omega,by go_num,HPk1,HOk1⟩,?_⟩
                                simp [intOf]
                                omega
                            · as_aux_lemma=>
                                obtain rfl:k=60:=by omega
                                have hpk:=HPk.out
                                rw [List.take_of_length_le (by rw [H9.out];exact Nat.le_refl _),List.drop_of_length_le (by rw [H60.out];exact Nat.le_refl _),List.append_nil] at hpk
                                have HPE:=Hd hpk
                                have HBE:=Hd (HBZ.out.kept HOk.out hgrp)
                                have HWE:=Hd (HWZ.out.trans HOk.out (fun k hk=>.inr (by rw [List.mem_singleton.1 hk];omega)))
                                have H612:=Hd (show (n :: c9).length=61 by rw [List.length_cons,H9.out])
                                clear hpk HPk HOk hlt
                                go_wp2_with (first
                                  | (refine wpList_load_page rfl _ rfl gp (by rfl) _ HPE.out H612.out ?_)
                                  | (refine wpList_store_page rfl _ _ rfl gr (n :: c9) (by rfl) (by rfl) H612.out _ HBE.out (by rfl) ?_
                                     intro wy hby hoy))
                                have ho6:=HWE.out.trans hoy (fun k hk=>.inr (by rw [List.mem_singleton.1 hk];omega))
                                (try simp only [Exit.inBlock,Exit.then])
                                refine bodyPost_ret (results_page3 rfl _ _ gr _ _ _ (by rfl) (by rfl) (by rfl) hby H612.out) rfl ?_
                                unfold DunPost
                                rw [HRR2.out]
                                exact ⟨rfl,ho6⟩
    · as_aux_lemma=>
        have hllb:((L0:Int) != (L1:Int))=true:=by simp;omega
        have hRR:=HR.out
        rw [if_pos (by rw [← HL0.out,← HL1.out];exact hll)] at hRR
        have HRR:=Hd hRR
        clear hRR hll
        go_wp2_with (first
          | (refine wpList_built rfl [] rfl (0 :: blankP) built_none ?_)
          | (refine wpList_store_page rfl _ _ rfl gr (0 :: blankP) (by rfl) (by rfl) (by rfl) _ HBR.out (by rfl) ?_
             intro wy hby hoy))
        have ho6:=HO.out.trans hoy (fun k hk=>.inr (by rw [List.mem_singleton.1 hk];omega))
        (try simp only [Exit.inBlock,Exit.then])
        refine bodyPost_ret (results_page3 rfl _ _ gr _ _ _ (by rfl) (by rfl) (by rfl) hby (by rfl)) rfl ?_
        unfold DunPost
        rw [HRR.out]
        exact ⟨rfl,ho6⟩
end Go.Proofs.Ytiaeagpepfmfgaa
