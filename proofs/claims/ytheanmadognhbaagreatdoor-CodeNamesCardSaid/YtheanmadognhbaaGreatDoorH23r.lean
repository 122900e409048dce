import Derived.Test.YtheanmadognhbaaGreatDoorHhr
import Derived.Test.YtheanmadognhbaaGreatDoorH21r
namespace Go.Proofs.YtheanmadognhbaaGreatDoor
open Go.RowKit Go.Maps
set_option linter.unusedSimpArgs false
set_option linter.unusedVariables false
def wordsC:Array Value:=#[.string ⟨#[63]⟩,.string ⟨#[112,117,115,104]⟩,.string ⟨#[108,111,99,97,108]⟩,.string ⟨#[107,101,101,112]⟩,.string ⟨#[99,101,108,108]⟩,.string ⟨#[115,101,116]⟩,.string ⟨#[97,100,100]⟩,.string ⟨#[115,117,98]⟩,.string ⟨#[115,119,97,112]⟩,.string ⟨#[100,111]⟩,.string ⟨#[110,101,103]⟩,.string ⟨#[110,111,116]⟩,.string ⟨#[106,117,109,112]⟩,.string ⟨#[122,101,114,111]⟩,.string ⟨#[108,111,111,112]⟩,.string ⟨#[110,101,101,100]⟩,.string ⟨#[103,105,118,101]⟩]
theorem words_at {k:Nat} (hk:k < 17):wordsC[k]?=some (.string (strOf (words17.getD k []))):=by
 have:k=0∨k=1∨k=2∨k=3∨k=4∨k=5∨k=6∨k=7∨k=8∨k=9∨k=10∨k=11∨k=12∨k=13∨k=14∨k=15∨k=16:=by omega
 rcases this with rfl | rfl | rfl | rfl | rfl | rfl | rfl | rfl | rfl | rfl | rfl | rfl | rfl | rfl | rfl | rfl | rfl<;>rfl
set_option maxRecDepth 100000 in
set_option maxHeartbeats 8000000 in
theorem rtext_any {w:World} {l:List Ins} {a:Option Addr} {L cap:Nat} {u:Value} (P1 P2:Int) (hv:RV rI w (.slice a L cap) l) (hin:∀ x∈l,n64 x.1∧n64 x.2) (hl:l.length≤1000000) :
  Calls Tryz.prog 17 #[CdA P1 P2 (.slice a L cap) u] w fun e w'=>e=.returned (.string (strOf (textS 0 l)))∧Only [] w w':=by
 have hc:=hv.len_
 have HL:=Hd hc
 have HV:=Hd hv
 have HIN:=Hd hin
 have hLb:L≤1000000:=by omega
 obtain ⟨R,hR⟩:∃ R,R=strOf (textS 0 l):=⟨_,rfl⟩
 rw [← hR]
 have HR:=Hd hR
 have oA:Only [] w (w.alloc (.cells #[.int .i64 P1,.int .i64 P2,.slice a L cap,u] 33)):=(Only.refl _ _).alloc _
 have hA:=heap_new w (.cells #[.int .i64 P1,.int .i64 P2,.slice a L cap,u] 33)
 obtain ⟨G,hG⟩:∃ G,G=w.heap.size:=⟨_,rfl⟩
 rw [← hG] at hA
 have HG:=Hd hG
 obtain ⟨w1,hw1⟩:∃ w1,w1=w.alloc (.cells #[.int .i64 P1,.int .i64 P2,.slice a L cap,u] 33):=⟨_,rfl⟩
 rw [← hw1] at oA hA
 have HW:=Hd hw1
 have HOA:=Hd oA
 have HA:=Hd hA
 clear hv hin hl hR hc hG hw1 oA hA
 unfold CdA
 go_enter Tryz.func17,Tryz.ntmps17
 go_upto_region 3 with (fail)
 rw [← HG.out,← HW.out]
 have hs1:w1.heap.size=G+1:=by rw [HW.out,World.size_alloc,HG.out]
 have hB:=heap_new w1 (.cells wordsC 93)
 have oB:=(Only.refl [] w1).alloc (.cells wordsC 93)
 rw [← wordsC.eq_1]
 generalize w1.alloc (.cells wordsC 93)=w2 at hB oB⊢
 rw [hs1] at hB
 have HB:=Hd hB
 have HA2:=Hd (oB.heap HA.out (by simp))
 have HOB:=Hd (HOA.out.trans oB (by simp))
 clear hB oB hs1
 go_wp2_with fail
 go_loopw [4,5] (fun s4 ix wr=>∃ (j:Nat) (T:Sec),j≤L∧Hid (T=textS 0 (l.take j))∧T.length≤60*j∧ix=.int .i64 (j:Int)∧s4=.string (strOf T)∧Hid (Only [] w2 wr)) (fun _ ix _=>L - (intOf ix).toNat)
 case atStart=>exact ⟨0,[],Nat.zero_le _,Hd (by rw [List.take_zero];rfl),by simp,rfl,rfl,Hd (Only.refl _ _)⟩
 case round=>
  obtain ⟨j,T0,hjn,HT,hTl,rfl,rfl,HO⟩:=hrel
  have y2:wr.cell? ⟨G,2,none⟩=some (.slice a L cap):=cell_at 2 (HO.out.heap HA2.out (by simp))
  by_cases hlt:j < L
  ·have hlt':(j:Int) < (L:Int):=by omega
   have j0:(0:Int)≤(j:Int):=by omega
   obtain ⟨x,hx⟩:∃ x,l[j]?=some x:=⟨_,List.getElem?_eq_getElem (by rw [← HL.out];exact hlt)⟩
   obtain ⟨d,m⟩:=x
   obtain ⟨gr,off,rfl,zc⟩:=(HV.out.quiet (HOB.out.trans HO.out (by simp))).at_ hx
   have z0:wr.cell? ⟨gr,off+j*2,none⟩=some (.int .i64 d):=zc 0 _ rfl
   have z1:wr.cell? ⟨gr,off+j*2+1,none⟩=some (.int .i64 m):=zc 1 _ rfl
   have hnm:=HIN.out _ (List.mem_of_getElem? hx)
   have HNM:=Hd hnm.2
   have HTX:=textS_take hx
   have HLN:=lineS_len (i:=j) (x:=(d,m)) (by omega) hnm.2
   obtain ⟨T1,hq1⟩:∃ T,T0++Lib.itoa (j:Int)=T:=⟨_,rfl⟩
   obtain ⟨T2,hq2⟩:∃ T,T1++[(32:UInt8)]=T:=⟨_,rfl⟩
   obtain ⟨T3,hq3⟩:∃ T,T2++wordS d=T:=⟨_,rfl⟩
   obtain ⟨T4,hq4⟩:∃ T,T3++[(32:UInt8)]=T:=⟨_,rfl⟩
   obtain ⟨T5,hq5⟩:∃ T,T4++Lib.itoa m=T:=⟨_,rfl⟩
   obtain ⟨T6,hq6⟩:∃ T,T5++[(10:UInt8)]=T:=⟨_,rfl⟩
   have hq7:T6=textS 0 (l.take (j+1)):=by
    rw [HTX,← hq6,← hq5,← hq4,← hq3,← hq2,← hq1,HT.out]
    unfold lineS
    simp
   have hl6:T6.length≤60*(j+1):=by
    rw [hq7,HTX,List.length_append,← HT.out]
    omega
   have l1:T0.length≤T1.length:=by rw [← hq1,List.length_append];omega
   have l2:T1.length≤T2.length:=by rw [← hq2,List.length_append];omega
   have l3:T2.length≤T3.length:=by rw [← hq3,List.length_append];omega
   have l4:T3.length≤T4.length:=by rw [← hq4,List.length_append];omega
   have l5:T4.length≤T5.length:=by rw [← hq5,List.length_append];omega
   have l6:T5.length≤T6.length:=by rw [← hq6,List.length_append];omega
   have A1:=fun W=>add_str hq1 (by omega) rfl rfl rfl W
   have A2:=fun W=>add_str hq2 (by omega) rfl (B:=⟨#[32]⟩) rfl rfl W
   have A3:=fun W=>add_str hq3 (by omega) rfl rfl rfl W
   have A4:=fun W=>add_str hq4 (by omega) rfl (B:=⟨#[32]⟩) rfl rfl W
   have A5:=fun W=>add_str hq5 (by omega) rfl rfl rfl W
   have A6:=fun W=>add_str hq6 (by omega) rfl (B:=⟨#[10]⟩) rfl rfl W
   have HT6:=Hd hq7
   have HL6:=hl6
   obtain ⟨S6,hs6⟩:∃ S,S=strOf T6:=⟨_,rfl⟩
   rw [← hs6] at A6
   have HQ6:=Hd (show Value.string S6=.string (strOf T6) by rw [hs6])
   obtain ⟨E1,he1⟩:∃ S,strOf (Lib.itoa (j:Int))=S:=⟨_,rfl⟩
   obtain ⟨E2,he2⟩:∃ S,strOf (Lib.itoa m)=S:=⟨_,rfl⟩
   rw [he1] at A1
   rw [he2] at A5
   have HE1:=Hd he1
   have HE2:=Hd he2
   have hwd:(0 < d∧d < 17)∨wordS d=[63]:=by
    by_cases h:0 < d∧d < 17
    ·exact .inl h
    ·right;unfold wordS;rw [if_neg h]
   generalize strOf T0=S0 at A1⊢
   generalize strOf T1=S1 at A1 A2
   generalize strOf T2=S2 at A2 A3
   generalize strOf T3=S3 at A3 A4
   generalize strOf T4=S4 at A4 A5
   generalize strOf T5=S5 at A5 A6
   clear hx zc hnm HTX HLN hq1 hq2 hq3 hq4 hq5 hq6 hq7 hl6 l1 l2 l3 l4 l5 l6 hs6 he1 he2 HT hTl
   by_cases hd:0 < d∧d < 17
   ·obtain ⟨hd0,hd1⟩:=hd
    obtain ⟨k,rfl⟩:∃ k:Nat,d=(k:Int):=⟨d.toNat,by omega⟩
    have zw:wr.cell? ⟨G+1,k,none⟩=some (.string (strOf (wordS (k:Int)))):=by
     have e:wordS (k:Int)=words17.getD k []:=by unfold wordS;rw [if_pos ⟨hd0,hd1⟩];rfl
     rw [e]
     exact (cell_at _ (HO.out.heap HB.out (by simp))).trans (words_at (by omega))
    have k17:k < 17:=by omega
    clear hwd
    generalize strOf (wordS (k:Int))=SW at zw A3
    go_upto_region 9 with (fail)
    have oD:Only [] wr wr.drew:=(Only.refl [] wr).drew
    refine wp_region_held_drew (S:=fun w'=>w'.cell? ⟨G,2,none⟩=some (.slice (some ⟨gr,off,none⟩) L cap)∧w'.cell? ⟨gr,off+j*2+1,none⟩=some (.int .i64 m)) (by kernel_rfl) ⟨cell_kept oD y2 (by simp),cell_kept oD z1 (by simp)⟩ (fun hH=>?_)
    have HO2:=Hd (HO.out.trans oD (by simp))
    clear y2 z0 z1 oD
    generalize wr.drew=wd at HO2 hH⊢
    refine tk 0 hH ?_
    refine tk 1 hH ?_
    refine tk 5 hH ?_
    refine tk 8 hH ?_
    refine tk 9 hH ?_
    refine tk 10 hH ?_
    refine tk 11 hH ?_
    refine tk 12 hH ?_
    refine tk 13 hH ?_
    refine rd 2 (fun K hK=>?_)
    go_simp
    refine (decimal_all wd (i:=(j:Int)) ⟨by omega,by omega⟩).mono ?_
    rintro en w6 ⟨rfl,ho⟩
    rw [HE1.out]
    refine hK.out _ _ ⟨cell_kept ho hH.1 (by simp),cell_kept ho hH.2 (by simp)⟩ (fun hH=>?_)
    clear hK K
    replace HO2:=Hd (HO2.out.trans ho (by simp))
    clear ho
    refine tk 3 hH ?_
    refine tk 4 hH ?_
    refine tk 6 hH ?_
    refine tk 7 hH ?_
    refine rd 14 (fun K hK=>?_)
    go_simp
    refine (decimal_all w6 HNM.out).mono ?_
    rintro en w7 ⟨rfl,ho⟩
    rw [HE2.out]
    refine hK.out _ _ ⟨cell_kept ho hH.1 (by simp),cell_kept ho hH.2 (by simp)⟩ (fun hH=>?_)
    clear hK K
    replace HO2:=Hd (HO2.out.trans ho (by simp))
    clear ho
    refine tk 15 hH ?_
    refine tk 16 hH ?_
    refine tk 17 hH ?_
    clear hH A1 A2 A3 A4 A5 A6
    refine wpAnyH_done (by kernel_rfl) ?_ _
    go_wp2_with fail
    go_roundw
    case rel=>exact ⟨j+1,T6,by omega,HT6,HL6,by go_num,HQ6.out,HO2⟩
    case measure=>simp [intOf];omega
   ·have hw3:=hwd.resolve_left hd
    rw [hw3,show strOf [63]=⟨#[63]⟩ from rfl] at A3
    clear hwd hw3
    by_cases hd0:0 < d
    ·have hd1:17≤d:=by omega
     clear hd
     go_upto_region 9 with (fail)
     have oD:Only [] wr wr.drew:=(Only.refl [] wr).drew
     refine wp_region_held_drew (S:=fun w'=>w'.cell? ⟨G,2,none⟩=some (.slice (some ⟨gr,off,none⟩) L cap)∧w'.cell? ⟨gr,off+j*2+1,none⟩=some (.int .i64 m)) (by kernel_rfl) ⟨cell_kept oD y2 (by simp),cell_kept oD z1 (by simp)⟩ (fun hH=>?_)
     have HO2:=Hd (HO.out.trans oD (by simp))
     clear y2 z0 z1 oD
     generalize wr.drew=wd at HO2 hH⊢
     refine tk 0 hH ?_
     refine tk 1 hH ?_
     refine tk 5 hH ?_
     refine tk 8 hH ?_
     refine tk 9 hH ?_
     refine tk 10 hH ?_
     refine tk 11 hH ?_
     refine tk 12 hH ?_
     refine tk 13 hH ?_
     refine rd 2 (fun K hK=>?_)
     go_simp
     refine (decimal_all wd (i:=(j:Int)) ⟨by omega,by omega⟩).mono ?_
     rintro en w6 ⟨rfl,ho⟩
     rw [HE1.out]
     refine hK.out _ _ ⟨cell_kept ho hH.1 (by simp),cell_kept ho hH.2 (by simp)⟩ (fun hH=>?_)
     clear hK K
     replace HO2:=Hd (HO2.out.trans ho (by simp))
     clear ho
     refine tk 3 hH ?_
     refine tk 4 hH ?_
     refine tk 6 hH ?_
     refine tk 7 hH ?_
     refine rd 14 (fun K hK=>?_)
     go_simp
     refine (decimal_all w6 HNM.out).mono ?_
     rintro en w7 ⟨rfl,ho⟩
     rw [HE2.out]
     refine hK.out _ _ ⟨cell_kept ho hH.1 (by simp),cell_kept ho hH.2 (by simp)⟩ (fun hH=>?_)
     clear hK K
     replace HO2:=Hd (HO2.out.trans ho (by simp))
     clear ho
     refine tk 15 hH ?_
     refine tk 16 hH ?_
     refine tk 17 hH ?_
     clear hH A1 A2 A3 A4 A5 A6
     refine wpAnyH_done (by kernel_rfl) ?_ _
     go_wp2_with fail
     go_roundw
     case rel=>exact ⟨j+1,T6,by omega,HT6,HL6,by go_num,HQ6.out,HO2⟩
     case measure=>simp [intOf];omega
    ·clear hd
     go_upto_region 9 with (fail)
     have oD:Only [] wr wr.drew:=(Only.refl [] wr).drew
     refine wp_region_held_drew (S:=fun w'=>w'.cell? ⟨G,2,none⟩=some (.slice (some ⟨gr,off,none⟩) L cap)∧w'.cell? ⟨gr,off+j*2+1,none⟩=some (.int .i64 m)) (by kernel_rfl) ⟨cell_kept oD y2 (by simp),cell_kept oD z1 (by simp)⟩ (fun hH=>?_)
     have HO2:=Hd (HO.out.trans oD (by simp))
     clear y2 z0 z1 oD
     generalize wr.drew=wd at HO2 hH⊢
     refine tk 0 hH ?_
     refine tk 1 hH ?_
     refine tk 5 hH ?_
     refine tk 8 hH ?_
     refine tk 9 hH ?_
     refine tk 10 hH ?_
     refine tk 11 hH ?_
     refine tk 12 hH ?_
     refine tk 13 hH ?_
     refine rd 2 (fun K hK=>?_)
     go_simp
     refine (decimal_all wd (i:=(j:Int)) ⟨by omega,by omega⟩).mono ?_
     rintro en w6 ⟨rfl,ho⟩
     rw [HE1.out]
     refine hK.out _ _ ⟨cell_kept ho hH.1 (by simp),cell_kept ho hH.2 (by simp)⟩ (fun hH=>?_)
     clear hK K
     replace HO2:=Hd (HO2.out.trans ho (by simp))
     clear ho
     refine tk 3 hH ?_
     refine tk 4 hH ?_
     refine tk 6 hH ?_
     refine tk 7 hH ?_
     refine rd 14 (fun K hK=>?_)
     go_simp
     refine (decimal_all w6 HNM.out).mono ?_
     rintro en w7 ⟨rfl,ho⟩
     rw [HE2.out]
     refine hK.out _ _ ⟨cell_kept ho hH.1 (by simp),cell_kept ho hH.2 (by simp)⟩ (fun hH=>?_)
     clear hK K
     replace HO2:=Hd (HO2.out.trans ho (by simp))
     clear ho
     refine tk 15 hH ?_
     refine tk 16 hH ?_
     refine tk 17 hH ?_
     clear hH A1 A2 A3 A4 A5 A6
     refine wpAnyH_done (by kernel_rfl) ?_ _
     go_wp2_with fail
     go_roundw
     case rel=>exact ⟨j+1,T6,by omega,HT6,HL6,by go_num,HQ6.out,HO2⟩
     case measure=>simp [intOf];omega
  ·obtain rfl:j=L:=by omega
   have hRT:R=strOf T0:=by
    rw [HR.out,HT.out,List.take_of_length_le (by rw [← HL.out];exact Nat.le_refl _)]
   have HRT:=Hd hRT
   clear hRT
   go_wp2_with fail
   go_ret
   exact ⟨by rw [HRT.out]<;>rfl,HOB.out.trans HO.out (by simp)⟩
end Go.Proofs.YtheanmadognhbaaGreatDoor
