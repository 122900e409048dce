import Derived.Test.YtagkbbcpbebapaaIar
import Derived.Test.YtagkbbcpbebapaaIbr
import Derived.Test.YtagkbbcpbebapaaK17r
import Derived.Test.YtagkbbcpbebapaaQar
import Derived.Test.YtagkbbcpbebapaaZbr
namespace Go.Proofs.Ytagkbbcpbebapaa
open Go.RowKit Go.Maps
set_option linter.unusedSimpArgs false
set_option linter.unusedVariables false
theorem res_iturn (tmps:Array Value) (w:World) (g:Nat) (v0 v1 v2 v3 v4 ev:Value) (h2:tmps.getD 2 undef=.pointer (some ⟨g,0,none⟩)) (h3:tmps.getD 3 undef=ev) (h:w.heap[g]?=some (.cells #[v0,v1,v2,v3,v4] 27 (0,0))) :
  (results Try.f11 tmps).run Try.prog w=.ok (.tuple #[.agg #[v0,v1,v2,v3,v4],ev]) w:=by
 have c0:w.cell? ⟨g,0,none⟩=some v0:=cell_at 0 h
 have c1:w.cell? ⟨g,1,none⟩=some v1:=cell_at 1 h
 have c2:w.cell? ⟨g,2,none⟩=some v2:=cell_at 2 h
 have c3:w.cell? ⟨g,3,none⟩=some v3:=cell_at 3 h
 have c4:w.cell? ⟨g,4,none⟩=some v4:=cell_at 4 h
 have hl:(loadVar 27 ⟨g,0,none⟩).run Try.prog w=.ok (.agg #[v0,v1,v2,v3,v4]) w:=by
  clear h
  simp [go_sem,c0,c1,c2,c3,c4]
 have h2':tmps[2]?.getD undef=.pointer (some ⟨g,0,none⟩):=by simpa using h2
 have h3':tmps[3]?.getD undef=ev:=by simpa using h3
 simp [results,Try.results11,asAddr,h2',h3',hl]
theorem neq_nilT (w:World):(binOp .neq 31 .nilIface .nilIface).run Try.prog w=.ok (.bool false) w:=by kernel_rfl
theorem neq_fltT (g:Nat) (w:World):(binOp .neq 31 (.iface 77 (.pointer (some ⟨g,0,none⟩))) .nilIface).run Try.prog w=.ok (.bool true) w:=by kernel_rfl
def okT (d:Df):Bool:=(chkD d).2.1 == 0 && (chkD d).1.turns
theorem okT_none {d:Df} (h:(opS CS.new d).flt=none):okT d=(opI CS.new d).turns:=by
 unfold okT chkD
 rw [h]
 simp
theorem okT_some {d:Df} {x:Int×Int} (h:(opS CS.new d).flt=some x):okT d=false:=by
 obtain ⟨c,p⟩:=x
 unfold okT chkD
 rw [h]
 simp [infoZ]
theorem okT_iff {d:Df} (hw:Whole d) (hp:pB d.body):okT d=true↔Turns d:=by
 cases h:(opS CS.new d).flt with
 | some x=>
  rw [okT_some h]
  unfold Turns
  rw [h]
  simp
 | none=>
  rw [okT_none h]
  obtain ⟨i1,-,-⟩:=info_of hw hp h
  rw [i1]
  unfold Turns
  rw [h]
  simp
def TuPost (w:World) (d:Df) (e:Ending) (w':World):Prop:=
 ∃ (s:ByteArray) (a1 a2 a3 a4:Option Addr) (l1 l2 l3 l4 c1 c2 c3 c4:Nat),e=.returned (.tuple #[.agg #[.string s,.slice a1 l1 c1,.slice a2 l2 c2,.slice a3 l3 c3,.slice a4 l4 c4],if okT d=true then .nilIface else err 13])∧
  DV w' (fun b=>w.heap.size≤b) (if okT d=true then turnD d else ⟨[],[],[],[],[]⟩) [.string s,.slice a1 l1 c1,.slice a2 l2 c2,.slice a3 l3 c3,.slice a4 l4 c4]∧Only [] w w'
theorem dv_none (w:World) (B:Nat→Prop):DV w B ⟨[],[],[],[],[]⟩ [.string ⟨#[]⟩,.slice none 0 0,.slice none 0 0,.slice none 0 0,.slice none 0 0]:=
 ⟨_,_,_,_,rfl,NmV.nil _ _,EsV.nil _ _,SsV.nil _ _,EsV.nil _ _⟩
set_option maxRecDepth 100000 in
set_option maxHeartbeats 8000000 in
theorem iturn_any {w:World} {B:Nat→Prop} {d:Df} {cs:List Value} (hd:DV w B d cs) (hw:Whole d) (hp:pB d.body):Calls Try.prog 11 #[.agg cs.toArray] w (TuPost w d):=by
 obtain ⟨v1,v2,v3,v4,rfl,hv1,hv2,hv3,hv4⟩:=id hd
 obtain ⟨a1,c1,rfl,-⟩:=id hv1
 obtain ⟨a2,c2,rfl,-⟩:=id hv2
 obtain ⟨a3,c3,rfl,-⟩:=id hv3
 obtain ⟨a4,c4,rfl,-⟩:=id hv4
 obtain ⟨sn,hsn⟩:∃ sn,sn=strOf d.name:=⟨_,rfl⟩
 obtain ⟨L1,hL1⟩:∃ L,L=d.params.length:=⟨_,rfl⟩
 obtain ⟨L2,hL2⟩:∃ L,L=d.needs.length:=⟨_,rfl⟩
 obtain ⟨L3,hL3⟩:∃ L,L=d.body.length:=⟨_,rfl⟩
 obtain ⟨L4,hL4⟩:∃ L,L=d.give.length:=⟨_,rfl⟩
 rw [← hsn,← hL1,← hL2,← hL3,← hL4] at hd⊢
 rw [← hL1] at hv1
 rw [← hL3] at hv3
 have HD:=Hd hd
 have HV1:=Hd hv1
 have HV3:=Hd hv3
 have HWH:=Hd hw
 have HP:=Hd hp
 have HS:=Hd hsn
 have HL1:=Hd hL1
 have HL3:=Hd hL3
 clear hd hv1 hv2 hv3 hv4 hw hp hsn hL1 hL2 hL3 hL4
 go_enter Try.func11,Try.ntmps11
 go_upto_region 1 with (fail)
 obtain ⟨w2,hw2⟩:∃ w2,w2=(w.alloc (.cells #[.string sn,.slice a1 L1 c1,.slice a2 L2 c2,.slice a3 L3 c3,.slice a4 L4 c4] 27)).alloc (.cells #[.string ⟨#[]⟩,.slice none 0 0,.slice none 0 0,.slice none 0 0,.slice none 0 0] 27):=⟨_,rfl⟩
 have s1:(w.alloc (.cells #[.string sn,.slice a1 L1 c1,.slice a2 L2 c2,.slice a3 L3 c3,.slice a4 L4 c4] 27)).heap.size=w.heap.size+1:=Array.size_push _
 have hA:w2.heap[w.heap.size]?=some (.cells #[.string sn,.slice a1 L1 c1,.slice a2 L2 c2,.slice a3 L3 c3,.slice a4 L4 c4] 27 (0,0)):=by rw [hw2];exact heap_old _ (heap_new w _)
 have hZ:w2.heap[w.heap.size+1]?=some (.cells #[.string ⟨#[]⟩,.slice none 0 0,.slice none 0 0,.slice none 0 0,.slice none 0 0] 27 (0,0)):=by
  have:=heap_new (w.alloc (.cells #[.string sn,.slice a1 L1 c1,.slice a2 L2 c2,.slice a3 L3 c3,.slice a4 L4 c4] 27)) (.cells #[.string ⟨#[]⟩,.slice none 0 0,.slice none 0 0,.slice none 0 0,.slice none 0 0] 27)
  rw [s1] at this
  rw [hw2]
  exact this
 have o2:Only [] w w2:=by rw [hw2];exact ((Only.refl [] w).alloc _).alloc _
 rw [← hw2]
 clear s1 hw2
 obtain ⟨ga,hga⟩:∃ g,g=w.heap.size:=⟨_,rfl⟩
 obtain ⟨gz,hgz⟩:∃ g,g=w.heap.size+1:=⟨_,rfl⟩
 rw [← hgz] at hZ⊢
 rw [← hga] at hA⊢
 have HA:=Hd hA
 have HZ:=Hd hZ
 have HO:=Hd o2
 have HG:=Hd (And.intro hga hgz)
 replace HD:=Hd (HD.out.kept o2 (by simp) (fun _ h=>h))
 replace HV1:=Hd (HV1.out.kept o2 (by simp) (fun _ h=>h))
 replace HV3:=Hd (HV3.out.quiet o2)
 have K1:=check_any HD.out HWH.out HP.out
 have y0:w2.cell? ⟨ga,0,none⟩=some (.string sn):=cell_at 0 hA
 have y1:w2.cell? ⟨ga,1,none⟩=some (.slice a1 L1 c1):=cell_at 1 hA
 have y2:w2.cell? ⟨ga,2,none⟩=some (.slice a2 L2 c2):=cell_at 2 hA
 have y3:w2.cell? ⟨ga,3,none⟩=some (.slice a3 L3 c3):=cell_at 3 hA
 have y4:w2.cell? ⟨ga,4,none⟩=some (.slice a4 L4 c4):=cell_at 4 hA
 clear hA hZ o2 hga hgz
 go_wp2_with fail
 refine K1.mono ?_
 rintro e w3 ⟨ev,rfl,hfz,o3⟩
 replace HO:=Hd (HO.out.trans o3 (by simp))
 replace HA:=Hd (o3.heap HA.out (by simp))
 replace HZ:=Hd (o3.heap HZ.out (by simp))
 replace HV1:=Hd (HV1.out.kept o3 (by simp) (fun _ h=>h))
 replace HV3:=Hd (HV3.out.quiet o3)
 have HFZ:=Hd hfz
 obtain ⟨i0,ci0,pi0,hi0⟩:∃ i c p,chkD d=(i,c,p):=⟨_,_,_,rfl⟩
 have hok:okT d=(ci0 == 0 && i0.turns):=by unfold okT;rw [hi0]
 rw [hi0]
 obtain ⟨im,ist,inn,itu⟩:=i0
 unfold infoV
 dsimp only at hok⊢
 have hci:(opS CS.new d).flt=none→ci0=0:=fun h=>by
  unfold chkD at hi0
  rw [h] at hi0
  injection hi0 with _ h2
  injection h2 with h3 _
  exact h3.symm
 have HCI:=Hd hci
 have HOK:=Hd hok
 obtain ⟨st',hst⟩:∃ x:Int,x=ist:=⟨_,rfl⟩
 obtain ⟨nm',hnm⟩:∃ x:Int,x=inn:=⟨_,rfl⟩
 rw [← hst,← hnm]
 clear K1 o3 hfz hi0 hst hnm y0 y1 y2 y3 y4 hok hci HD
 go_upto_region 2 with (fail)
 have o4:=(Only.refl [] w3).alloc (.cells #[.int .i64 im,.int .i64 st',.int .i64 nm',.bool itu] 51)
 have h4:=heap_new w3 (.cells #[.int .i64 im,.int .i64 st',.int .i64 nm',.bool itu] 51)
 obtain ⟨gi,hgi⟩:∃ g,g=w3.heap.size:=⟨_,rfl⟩
 rw [← hgi] at h4⊢
 generalize w3.alloc (.cells #[.int .i64 im,.int .i64 st',.int .i64 nm',.bool itu] 51)=w4 at o4 h4⊢
 replace HO:=Hd (HO.out.trans o4 (by simp))
 replace HA:=Hd (o4.heap HA.out (by simp))
 replace HZ:=Hd (o4.heap HZ.out (by simp))
 replace HV1:=Hd (HV1.out.kept o4 (by simp) (fun _ h=>h))
 replace HV3:=Hd (HV3.out.quiet o4)
 replace HFZ:=Hd (HFZ.out.quiet o4)
 have x3:w4.cell? ⟨gi,3,none⟩=some (.bool itu):=cell_at 3 h4
 clear o4 h4 hgi
 have z0:w4.cell? ⟨gz,0,none⟩=some (.string ⟨#[]⟩):=cell_at 0 HZ.out
 have z1:w4.cell? ⟨gz,1,none⟩=some (.slice none 0 0):=cell_at 1 HZ.out
 have z2:w4.cell? ⟨gz,2,none⟩=some (.slice none 0 0):=cell_at 2 HZ.out
 have z3:w4.cell? ⟨gz,3,none⟩=some (.slice none 0 0):=cell_at 3 HZ.out
 have z4:w4.cell? ⟨gz,4,none⟩=some (.slice none 0 0):=cell_at 4 HZ.out
 have fz0:=free_at 0 HZ.out
 have fz1:=free_at 1 HZ.out
 have fz2:=free_at 2 HZ.out
 have fz3:=free_at 3 HZ.out
 have fz4:=free_at 4 HZ.out
 cases hflt:(opS CS.new d).flt with
 | some x=>
  obtain ⟨cc,pp⟩:=x
  have hfz:=HFZ.out
  rw [hflt] at hfz
  obtain ⟨fg,rfl,-⟩:=hfz
  have HNO:=Hd (okT_some hflt)
  have q1:=neq_fltT fg
  clear hflt HCI HOK
  go_wp2_with fail
  (try simp only [Exit.inBlock,Exit.then])
  refine bodyPost_ret (res_iturn _ _ gz _ _ _ _ _ (err 13) rfl rfl (five_set HZ.out _ _ _ _ _)) rfl ?_
  refine ⟨⟨#[]⟩,none,none,none,none,0,0,0,0,0,0,0,0,by rw [HNO.out];rfl,by rw [HNO.out];exact dv_none _ _,HO.out.trans (show Only [gz] w4 _ from (((((Only.refl _ _).setCell (.inl (by simp)) _).setCell (.inl (by simp)) _).setCell (.inl (by simp)) _).setCell (.inl (by simp)) _).setCell (.inl (by simp)) _) (fun k hk=>.inr (by rw [List.mem_singleton.1 hk,HG.out.2];omega))⟩
 | none=>
  have hfz:=HFZ.out
  rw [hflt] at hfz
  have hfz:ev=.nilIface:=hfz
  subst hfz
  have q1:=neq_nilT
  have hc0:=HCI.out hflt
  cases itu with
  | false=>
   have HNO:Hid (okT d=false):=Hd (by rw [HOK.out];simp)
   clear hflt HCI HOK hc0
   go_wp2_with fail
   (try simp only [Exit.inBlock,Exit.then])
   refine bodyPost_ret (res_iturn _ _ gz _ _ _ _ _ (err 13) rfl rfl (five_set HZ.out _ _ _ _ _)) rfl ?_
   refine ⟨⟨#[]⟩,none,none,none,none,0,0,0,0,0,0,0,0,by rw [HNO.out];rfl,by rw [HNO.out];exact dv_none _ _,HO.out.trans (show Only [gz] w4 _ from (((((Only.refl _ _).setCell (.inl (by simp)) _).setCell (.inl (by simp)) _).setCell (.inl (by simp)) _).setCell (.inl (by simp)) _).setCell (.inl (by simp)) _) (fun k hk=>.inr (by rw [List.mem_singleton.1 hk,HG.out.2];omega))⟩
  | true=>
   have HYES:Hid (okT d=true):=Hd (by rw [HOK.out,hc0];rfl)
   clear hflt HCI HOK hc0
   go_upto_region 4 with (fail)
   have oD:Only [] w4 w4.drew:=(Only.refl [] w4).drew
   have hA5:=oD.heap HA.out (by simp)
   have hZ5:=oD.heap HZ.out (by simp)
   replace HO:=Hd (HO.out.trans oD (by simp))
   replace HV1:=Hd (HV1.out.kept oD (by simp) (fun _ h=>h))
   replace HV3:=Hd (HV3.out.quiet oD)
   clear x3 z0 z1 z2 z3 z4 fz0 fz1 fz2 fz3 fz4 HFZ HA HZ oD
   refine wp_region_held_drew (S:=fun w'=>w'.cell? ⟨ga,0,none⟩=some (.string sn)∧w'.cell? ⟨ga,1,none⟩=some (.slice a1 L1 c1)∧w'.cell? ⟨ga,3,none⟩=some (.slice a3 L3 c3)) (by kernel_rfl) ⟨cell_at 0 hA5,cell_at 1 hA5,cell_at 3 hA5⟩ (fun hH=>?_)
   generalize w4.drew=w5 at HO HV1 HV3 hA5 hZ5 hH⊢
   have HA:=Hd hA5
   have HZ:=Hd hZ5
   have HZL:=Hd (lt_of_heap hZ5)
   clear hA5 hZ5
   refine tk 0 hH ?_
   refine tk 1 hH ?_
   refine tk 2 hH ?_
   refine tk 3 hH ?_
   refine tk 5 hH ?_
   refine tk 6 hH ?_
   have hpl:=HWH.out.plen
   have hbs:=HWH.out.size
   have KN:=cloneN_any (.slice a1 L1 c1) d.params w5 B HV1.out (by omega)
   have KB:=fun W hV=>iblock_all 1000000 (Nat.le_refl _) d.body (by omega) HWH.out.body HP.out W (.slice a3 L3 c3) B hV
   rw [← HL1.out] at KN
   rw [← HL3.out] at KB
   have HKB:=Hd KB
   clear hpl hbs KB
   refine rd 4 (fun K hK=>?_)
   go_simp
   refine KN.mono ?_
   rintro e w6 ⟨a5,c5,rfl,hn5,o6⟩
   have hA6:=o6.heap HA.out (by simp)
   have HZ6:=Hd (o6.heap HZ.out (by simp))
   have HN6:=Hd hn5.nmv
   have HS6:=Hd o6.size
   replace HO:=Hd (HO.out.trans o6 (by simp))
   replace HV3:=Hd (HV3.out.quiet o6)
   refine hK.out _ _ ⟨cell_at 0 hA6,cell_at 1 hA6,cell_at 3 hA6⟩ (fun hH=>?_)
   have HA6:=Hd hA6
   clear hK K KN hn5 o6 hA6 HA HZ HV1
   refine rd 7 (fun K hK=>?_)
   go_simp
   refine (HKB.out w6 HV3.out).mono ?_
   rintro e w7 ⟨a6,c6,rfl,hs6,o7⟩
   have hA7:=o7.heap HA6.out (by simp)
   have HZ7:=Hd (o7.heap HZ6.out (by simp))
   have HN7:=Hd (HN6.out.kept o7 (by simp) (fun _ h=>h))
   have HB7:=Hd (hs6.kept (B':=fun q=>w5.heap.size≤q) (Only.refl [] w7) (by simp) (fun q hq=>Nat.le_trans HS6.out hq))
   replace HO:=Hd (HO.out.trans o7 (by simp))
   refine hK.out _ _ ⟨cell_at 0 hA7,cell_at 1 hA7,cell_at 3 hA7⟩ (fun hH=>?_)
   have HA7:=Hd hA7
   clear hK K HKB hs6 o7 hA7 HA6 HZ6 HN6 HS6 HV3
   refine tk 8 hH ?_
   have z0:w7.cell? ⟨gz,0,none⟩=some (.string ⟨#[]⟩):=cell_at 0 HZ7.out
   have z1:w7.cell? ⟨gz,1,none⟩=some (.slice none 0 0):=cell_at 1 HZ7.out
   have z2:w7.cell? ⟨gz,2,none⟩=some (.slice none 0 0):=cell_at 2 HZ7.out
   have z3:w7.cell? ⟨gz,3,none⟩=some (.slice none 0 0):=cell_at 3 HZ7.out
   have z4:w7.cell? ⟨gz,4,none⟩=some (.slice none 0 0):=cell_at 4 HZ7.out
   have fz0:=free_at 0 HZ7.out
   have fz1:=free_at 1 HZ7.out
   have fz2:=free_at 2 HZ7.out
   have fz3:=free_at 3 HZ7.out
   have fz4:=free_at 4 HZ7.out
   clear hH
   refine rd 9 (fun K hK=>?_)
   go_simp
   have oz:Only [gz] w7 (((((w7.setCell ⟨gz,0,none⟩ (.string sn)).setCell ⟨gz,1,none⟩ (.slice a5 L1 c5)).setCell ⟨gz,2,none⟩ (.slice none 0 0)).setCell ⟨gz,3,none⟩ (.slice a6 L3 c6)).setCell ⟨gz,4,none⟩ (.slice none 0 0)):=
    (((((Only.refl _ _).setCell (.inl (by simp)) _).setCell (.inl (by simp)) _).setCell (.inl (by simp)) _).setCell (.inl (by simp)) _).setCell (.inl (by simp)) _
   have hz:=five_set HZ7.out (.string sn) (.slice a5 L1 c5) (.slice none 0 0) (.slice a6 L3 c6) (.slice none 0 0)
   have hgne:ga≠gz:=by rw [HG.out.1,HG.out.2];omega
   have hA8:=oz.heap HA7.out (by simpa using hgne)
   generalize ((((w7.setCell ⟨gz,0,none⟩ (.string sn)).setCell ⟨gz,1,none⟩ (.slice a5 L1 c5)).setCell ⟨gz,2,none⟩ (.slice none 0 0)).setCell ⟨gz,3,none⟩ (.slice a6 L3 c6)).setCell ⟨gz,4,none⟩ (.slice none 0 0)=w8 at oz hz hA8⊢
   have HOZ:=Hd oz
   have HZ8:=Hd hz
   refine hK.out _ _ ⟨cell_at 0 hA8,cell_at 1 hA8,cell_at 3 hA8⟩ (fun hH=>?_)
   clear hK K hz hA8 oz z0 z1 z2 z3 z4 fz0 fz1 fz2 fz3 fz4
   refine tk 10 hH ?_
   refine wpAnyH_done (by kernel_rfl) ?_ _
   clear hH
   go_wp2_with fail
   (try simp only [Exit.inBlock,Exit.then])
   refine bodyPost_ret (res_iturn _ _ gz _ _ _ _ _ .nilIface rfl rfl HZ8.out) rfl ?_
   have hnz:∀ q∈[gz],¬ (w5.heap.size≤q):=fun q hq=>by
    rw [List.mem_singleton.1 hq]
    have:=HZL.out
    omega
   have hw5:∀ q,w5.heap.size≤q→w.heap.size≤q:=fun q hq=>by
    have:=HZL.out
    have:=HG.out.2
    omega
   refine ⟨sn,a5,none,a6,none,L1,0,L3,0,c5,0,c6,0,by rw [HYES.out];rfl,?_,HO.out.trans HOZ.out (fun k hk=>.inr (by rw [List.mem_singleton.1 hk,HG.out.2];omega))⟩
   rw [HYES.out]
   refine ⟨_,_,_,_,by rw [HS.out];rfl,?_,EsV.nil _ _,?_,EsV.nil _ _⟩
   ·exact HN7.out.kept HOZ.out hnz hw5
   ·exact HB7.out.kept HOZ.out hnz hw5
end Go.Proofs.Ytagkbbcpbebapaa
namespace Go.Proofs.Ytagkbbcpbebapaa
open Go.RowKit Go.Maps
set_option linter.unusedSimpArgs false
set_option linter.unusedVariables false
def dfT (l:Sec):Df:=match parseS l with | .ok d=>d | .error _=>⟨[],[],[],[],[]⟩
def isOk {α:Type} (r:Except (Nat×Nat) α):Bool:=match r with | .ok _=>true | .error _=>false
def PdPost (w:World) (r:Except (Nat×Nat) Df) (e:Ending) (w':World):Prop:=
 ∃ (s:ByteArray) (a1 a2 a3 a4:Option Addr) (l1 l2 l3 l4 c1 c2 c3 c4:Nat),e=.returned (.tuple #[.agg #[.string s,.slice a1 l1 c1,.slice a2 l2 c2,.slice a3 l3 c3,.slice a4 l4 c4],.bool (isOk r)])∧
  (∀ d,r=.ok d→DV w' (fun b=>w.heap.size≤b) d [.string s,.slice a1 l1 c1,.slice a2 l2 c2,.slice a3 l3 c3,.slice a4 l4 c4])∧Only [] w w'
theorem res_parsed (tmps:Array Value) (w:World) (g:Nat) (v0 v1 v2 v3 v4 ev:Value) (h2:tmps.getD 2 undef=.pointer (some ⟨g,0,none⟩)) (h3:tmps.getD 3 undef=ev) (h:w.heap[g]?=some (.cells #[v0,v1,v2,v3,v4] 27 (0,0))) :
  (results Try.f10 tmps).run Try.prog w=.ok (.tuple #[.agg #[v0,v1,v2,v3,v4],ev]) w:=by
 have c0:w.cell? ⟨g,0,none⟩=some v0:=cell_at 0 h
 have c1:w.cell? ⟨g,1,none⟩=some v1:=cell_at 1 h
 have c2:w.cell? ⟨g,2,none⟩=some v2:=cell_at 2 h
 have c3:w.cell? ⟨g,3,none⟩=some v3:=cell_at 3 h
 have c4:w.cell? ⟨g,4,none⟩=some v4:=cell_at 4 h
 have hl:(loadVar 27 ⟨g,0,none⟩).run Try.prog w=.ok (.agg #[v0,v1,v2,v3,v4]) w:=by
  clear h
  simp [go_sem,c0,c1,c2,c3,c4]
 have h2':tmps[2]?.getD undef=.pointer (some ⟨g,0,none⟩):=by simpa using h2
 have h3':tmps[3]?.getD undef=ev:=by simpa using h3
 simp [results,Try.results10,asAddr,h2',h3',hl]
set_option maxRecDepth 100000 in
set_option maxHeartbeats 4000000 in
theorem parsed_any (s:ByteArray) (w:World) (hs:s.size≤9223372036854775807):Calls Try.prog 10 #[.string s] w (PdPost w (parseS s.data.toList)):=by
 obtain ⟨R,hR⟩:∃ R,R=parseS s.data.toList:=⟨_,rfl⟩
 rw [← hR]
 have HR:=Hd hR
 clear hR
 go_enter Try.func10,Try.ntmps10
 go_upto_region 1 with (fail)
 have o1:=(Only.refl [] w).alloc (.cells #[.string ⟨#[]⟩,.slice none 0 0,.slice none 0 0,.slice none 0 0,.slice none 0 0] 27)
 have hz:=heap_new w (.cells #[.string ⟨#[]⟩,.slice none 0 0,.slice none 0 0,.slice none 0 0,.slice none 0 0] 27)
 obtain ⟨gz,hgz⟩:∃ g,g=w.heap.size:=⟨_,rfl⟩
 rw [← hgz] at hz⊢
 generalize w.alloc (.cells #[.string ⟨#[]⟩,.slice none 0 0,.slice none 0 0,.slice none 0 0,.slice none 0 0] 27)=w1 at o1 hz⊢
 have K1:=rparse_any s w1 hs
 rw [← HR.out] at K1
 have HG:=Hd hgz
 have HO:=Hd o1
 have HZ:=Hd hz
 have HZL:=Hd (lt_of_heap hz)
 clear o1 hz hgz
 go_wp2_with fail
 refine K1.mono ?_
 rintro e w2 ⟨sn,a1,a2,a3,a4,l1,l2,l3,l4,c1,c2,c3,c4,pc,pp,rfl,herr,hok,o2⟩
 replace HO:=Hd (HO.out.trans o2 (by simp))
 replace HZ:=Hd (o2.heap HZ.out (by simp))
 have HOK:=Hd hok
 have HER:=Hd herr
 clear K1 o2 hok herr
 go_upto_region 2 with (fail)
 have oA:=(Only.refl [] w2).alloc (.cells #[.string sn,.slice a1 l1 c1,.slice a2 l2 c2,.slice a3 l3 c3,.slice a4 l4 c4] 27)
 have hA:=heap_new w2 (.cells #[.string sn,.slice a1 l1 c1,.slice a2 l2 c2,.slice a3 l3 c3,.slice a4 l4 c4] 27)
 obtain ⟨gd,hgd⟩:∃ g,g=w2.heap.size:=⟨_,rfl⟩
 rw [← hgd] at hA⊢
 generalize w2.alloc (.cells #[.string sn,.slice a1 l1 c1,.slice a2 l2 c2,.slice a3 l3 c3,.slice a4 l4 c4] 27)=w3 at oA hA⊢
 replace HO:=Hd (HO.out.trans oA (by simp))
 replace HZ:=Hd (oA.heap HZ.out (by simp))
 have HOA:=Hd oA
 have x0:w3.cell? ⟨gd,0,none⟩=some (.string sn):=cell_at 0 hA
 have x1:w3.cell? ⟨gd,1,none⟩=some (.slice a1 l1 c1):=cell_at 1 hA
 have x2:w3.cell? ⟨gd,2,none⟩=some (.slice a2 l2 c2):=cell_at 2 hA
 have x3:w3.cell? ⟨gd,3,none⟩=some (.slice a3 l3 c3):=cell_at 3 hA
 have x4:w3.cell? ⟨gd,4,none⟩=some (.slice a4 l4 c4):=cell_at 4 hA
 clear hA oA hgd
 have z0:w3.cell? ⟨gz,0,none⟩=some (.string ⟨#[]⟩):=cell_at 0 HZ.out
 have z1:w3.cell? ⟨gz,1,none⟩=some (.slice none 0 0):=cell_at 1 HZ.out
 have z2:w3.cell? ⟨gz,2,none⟩=some (.slice none 0 0):=cell_at 2 HZ.out
 have z3:w3.cell? ⟨gz,3,none⟩=some (.slice none 0 0):=cell_at 3 HZ.out
 have z4:w3.cell? ⟨gz,4,none⟩=some (.slice none 0 0):=cell_at 4 HZ.out
 have fz0:=free_at 0 HZ.out
 have fz1:=free_at 1 HZ.out
 have fz2:=free_at 2 HZ.out
 have fz3:=free_at 3 HZ.out
 have fz4:=free_at 4 HZ.out
 obtain ⟨bo,hbo⟩:∃ b,b=isOk R:=⟨_,rfl⟩
 have hpc:((pc:Int) == 0)=bo:=by
  rw [hbo]
  cases hr:R with
  | error q=>
   obtain ⟨k,p0⟩:=q
   obtain ⟨rfl,rfl⟩:=HER.out k p0 hr
   have:=parseS_code (HR.out.symm.trans hr)
   show ((pc:Int) == 0)=false
   simp
   omega
  | ok d=>
   obtain ⟨rfl,rfl,-⟩:=HOK.out d hr
   rfl
 have HBO:=Hd hbo
 clear hbo
 go_wp2_with fail
 (try simp only [Exit.inBlock,Exit.then])
 refine bodyPost_ret (res_parsed _ _ gz _ _ _ _ _ (.bool bo) rfl rfl (five_set HZ.out _ _ _ _ _)) rfl ?_
 have oz:Only [gz] w3 (((((w3.setCell ⟨gz,0,none⟩ (.string sn)).setCell ⟨gz,1,none⟩ (.slice a1 l1 c1)).setCell ⟨gz,2,none⟩ (.slice a2 l2 c2)).setCell ⟨gz,3,none⟩ (.slice a3 l3 c3)).setCell ⟨gz,4,none⟩ (.slice a4 l4 c4)):=
  (((((Only.refl _ _).setCell (.inl (by simp)) _).setCell (.inl (by simp)) _).setCell (.inl (by simp)) _).setCell (.inl (by simp)) _).setCell (.inl (by simp)) _
 refine ⟨sn,a1,a2,a3,a4,l1,l2,l3,l4,c1,c2,c3,c4,by rw [HBO.out],fun d hr=>?_,HO.out.trans oz (fun k hk=>.inr (by rw [List.mem_singleton.1 hk,HG.out];exact Nat.le_refl _))⟩
 have hd:=((HOK.out d hr).2.2).kept HOA.out (by simp) (fun _ h=>h)
 have:=HZL.out
 have:=HG.out
 exact hd.kept oz (fun q hq hB=>by rw [List.mem_singleton.1 hq] at hB;omega) (fun q hq=>by omega)
def txA10:Sec:=[111,112,32,102,40,105,41,32,123,32,108,101,116,32,97,32,61,32,105,32,42,32,50,59,32,91,97,93,32,43,61,32,49,59,32,102,111,114,32,107,32,105,110,32,48,46,46,51,32,123,32,91,107,93,32,60,62,32,91,97,93,59,32,125,32,125]
def txB10:Sec:=[111,112,32,112,40,105,41,32,123,32,91,105,93,32,61,32,49,59,32,125]
theorem parA10:parseS txA10=.ok (dfT txA10):=by kernel_rfl
theorem parB10:parseS txB10=.ok (dfT txB10):=by kernel_rfl
theorem okA10:okT (dfT txA10)=true:=by kernel_rfl
theorem okB10:okT (dfT txB10)=false:=by kernel_rfl
theorem kindsA10:(turnD (dfT txA10)).body.map St.kind=[1,8,4]:=by kernel_rfl
theorem nil_nilT (w:World):(binOp .eql 31 .nilIface .nilIface).run Try.prog w=.ok (.bool true) w:=by kernel_rfl
theorem eql_errT (n:Int) (w:World):(binOp .eql 31 (err n) .nilIface).run Try.prog w=.ok (.bool false) w:=by kernel_rfl
theorem e13_e13 (w:World):(binOp .eql 31 (err 13) (err 13)).run Try.prog w=.ok (.bool true) w:=by kernel_rfl
theorem kinds_at {l:List St} {ks:List Int} (h:l.map St.kind=ks) {j:Nat} {k:Int} {nm:Sec} {ys:List E} {nn:Int} {bd els:List St} {p:Int} (he:l[j]?=some (.mk k nm ys nn bd els p)):ks[j]?=some k:=by
 rw [← h,List.getElem?_map,he]
 rfl
set_option maxRecDepth 100000 in
set_option maxHeartbeats 4000000 in
theorem alive10_any (w:World):Calls Try.prog 9 #[] w fun e w'=>e=.returned (.bool true)∧Only [] w w':=by
 have KP:=parsed_any ⟨#[111,112,32,102,40,105,41,32,123,32,108,101,116,32,97,32,61,32,105,32,42,32,50,59,32,91,97,93,32,43,61,32,49,59,32,102,111,114,32,107,32,105,110,32,48,46,46,51,32,123,32,91,107,93,32,60,62,32,91,97,93,59,32,125,32,125]⟩ w (by decide)
 rw [show parseS (⟨#[111,112,32,102,40,105,41,32,123,32,108,101,116,32,97,32,61,32,105,32,42,32,50,59,32,91,97,93,32,43,61,32,49,59,32,102,111,114,32,107,32,105,110,32,48,46,46,51,32,123,32,91,107,93,32,60,62,32,91,97,93,59,32,125,32,125]⟩:ByteArray).data.toList=.ok (dfT txA10) from parA10] at KP
 have HPA:=Hd (And.intro (parse_whole parA10) (parse_plain parA10))
 have HPB:=Hd (And.intro (parse_whole parB10) (parse_plain parB10))
 have HKA:=Hd (And.intro okA10 kindsA10)
 have HKB:=Hd okB10
 have HPR:=Hd (show parseS (⟨#[111,112,32,112,40,105,41,32,123,32,91,105,93,32,61,32,49,59,32,125]⟩:ByteArray).data.toList=.ok (dfT txB10) from parB10)
 generalize dfT txA10=dA at KP HPA HKA
 generalize dfT txB10=dB at HPB HKB HPR
 go_enter Try.func9,Try.ntmps9
 go_wp2_with fail
 refine KP.mono ?_
 rintro e w1 ⟨sn1,a11,a21,a31,a41,l11,l21,l31,l41,c11,c21,c31,c41,rfl,hdv,o1⟩
 have HO:=Hd o1
 have HDV1:=Hd (hdv dA rfl)
 clear KP hdv o1
 go_upto_region 2 with (fail)
 have oA:=(Only.refl [] w1).alloc (.cells #[.string sn1,.slice a11 l11 c11,.slice a21 l21 c21,.slice a31 l31 c31,.slice a41 l41 c41] 27)
 have hA:=heap_new w1 (.cells #[.string sn1,.slice a11 l11 c11,.slice a21 l21 c21,.slice a31 l31 c31,.slice a41 l41 c41] 27)
 obtain ⟨gd1,hgd⟩:∃ g,g=w1.heap.size:=⟨_,rfl⟩
 rw [← hgd] at hA⊢
 generalize w1.alloc (.cells #[.string sn1,.slice a11 l11 c11,.slice a21 l21 c21,.slice a31 l31 c31,.slice a41 l41 c41] 27)=w2 at oA hA⊢
 replace HO:=Hd (HO.out.trans oA (by simp))
 have HA1:=Hd hA
 replace HDV1:=Hd (HDV1.out.kept oA (by simp) (fun _ h=>h))
 have KP:=parsed_any ⟨#[111,112,32,112,40,105,41,32,123,32,91,105,93,32,61,32,49,59,32,125]⟩ w2 (by decide)
 rw [HPR.out] at KP
 clear oA hA hgd
 go_wp2_with fail
 refine KP.mono ?_
 rintro e w3 ⟨sn2,a12,a22,a32,a42,l12,l22,l32,l42,c12,c22,c32,c42,rfl,hdv,o1⟩
 replace HO:=Hd (HO.out.trans o1 (by simp))
 have HDV2:=Hd (hdv dB rfl)
 replace HA1:=Hd (o1.heap HA1.out (by simp))
 replace HDV1:=Hd (HDV1.out.kept o1 (by simp) (fun _ h=>h))
 clear KP hdv o1 HPR
 go_upto_region 3 with (fail)
 have oA:=(Only.refl [] w3).alloc (.cells #[.string sn2,.slice a12 l12 c12,.slice a22 l22 c22,.slice a32 l32 c32,.slice a42 l42 c42] 27)
 have hA:=heap_new w3 (.cells #[.string sn2,.slice a12 l12 c12,.slice a22 l22 c22,.slice a32 l32 c32,.slice a42 l42 c42] 27)
 obtain ⟨gd2,hgd⟩:∃ g,g=w3.heap.size:=⟨_,rfl⟩
 rw [← hgd] at hA⊢
 generalize w3.alloc (.cells #[.string sn2,.slice a12 l12 c12,.slice a22 l22 c22,.slice a32 l32 c32,.slice a42 l42 c42] 27)=w4 at oA hA⊢
 replace HO:=Hd (HO.out.trans oA (by simp))
 have HA2:=Hd hA
 replace HA1:=Hd (oA.heap HA1.out (by simp))
 replace HDV1:=Hd (HDV1.out.kept oA (by simp) (fun _ h=>h))
 replace HDV2:=Hd (HDV2.out.kept oA (by simp) (fun _ h=>h))
 clear oA hA hgd
 have KT:=iturn_any HDV1.out HPA.out.1 HPA.out.2
 have y0:w4.cell? ⟨gd1,0,none⟩=some (.string sn1):=cell_at 0 HA1.out
 have y1:w4.cell? ⟨gd1,1,none⟩=some (.slice a11 l11 c11):=cell_at 1 HA1.out
 have y2:w4.cell? ⟨gd1,2,none⟩=some (.slice a21 l21 c21):=cell_at 2 HA1.out
 have y3:w4.cell? ⟨gd1,3,none⟩=some (.slice a31 l31 c31):=cell_at 3 HA1.out
 have y4:w4.cell? ⟨gd1,4,none⟩=some (.slice a41 l41 c41):=cell_at 4 HA1.out
 go_wp2_with fail
 refine KT.mono ?_
 rintro e w5 ⟨sn3,a13,a23,a33,a43,l13,l23,l33,l43,c13,c23,c33,c43,rfl,hdv,o1⟩
 replace HO:=Hd (HO.out.trans o1 (by simp))
 rw [HKA.out.1,if_pos rfl] at hdv
 rw [HKA.out.1,if_pos rfl]
 have HDV3:=Hd hdv
 replace HA2:=Hd (o1.heap HA2.out (by simp))
 replace HDV2:=Hd (HDV2.out.kept o1 (by simp) (fun _ h=>h))
 clear KT hdv o1 y0 y1 y2 y3 y4 HDV1 HA1
 go_upto_region 4 with (fail)
 have oA:=(Only.refl [] w5).alloc (.cells #[.string sn3,.slice a13 l13 c13,.slice a23 l23 c23,.slice a33 l33 c33,.slice a43 l43 c43] 27)
 have hA:=heap_new w5 (.cells #[.string sn3,.slice a13 l13 c13,.slice a23 l23 c23,.slice a33 l33 c33,.slice a43 l43 c43] 27)
 obtain ⟨gd3,hgd⟩:∃ g,g=w5.heap.size:=⟨_,rfl⟩
 rw [← hgd] at hA⊢
 generalize w5.alloc (.cells #[.string sn3,.slice a13 l13 c13,.slice a23 l23 c23,.slice a33 l33 c33,.slice a43 l43 c43] 27)=w6 at oA hA⊢
 replace HO:=Hd (HO.out.trans oA (by simp))
 have HA3:=Hd hA
 replace HA2:=Hd (oA.heap HA2.out (by simp))
 replace HDV2:=Hd (HDV2.out.kept oA (by simp) (fun _ h=>h))
 replace HDV3:=Hd (HDV3.out.kept oA (by simp) (fun _ h=>h))
 clear oA hA hgd
 have KT:=iturn_any HDV2.out HPB.out.1 HPB.out.2
 have y0:w6.cell? ⟨gd2,0,none⟩=some (.string sn2):=cell_at 0 HA2.out
 have y1:w6.cell? ⟨gd2,1,none⟩=some (.slice a12 l12 c12):=cell_at 1 HA2.out
 have y2:w6.cell? ⟨gd2,2,none⟩=some (.slice a22 l22 c22):=cell_at 2 HA2.out
 have y3:w6.cell? ⟨gd2,3,none⟩=some (.slice a32 l32 c32):=cell_at 3 HA2.out
 have y4:w6.cell? ⟨gd2,4,none⟩=some (.slice a42 l42 c42):=cell_at 4 HA2.out
 go_wp2_with fail
 refine KT.mono ?_
 rintro e w7 ⟨sn4,a14,a24,a34,a44,l14,l24,l34,l44,c14,c24,c34,c44,rfl,-,o1⟩
 replace HO:=Hd (HO.out.trans o1 (by simp))
 rw [HKB.out,if_neg (by decide)]
 replace HA3:=Hd (o1.heap HA3.out (by simp))
 replace HDV3:=Hd (HDV3.out.kept o1 (by simp) (fun _ h=>h))
 clear KT o1 y0 y1 y2 y3 y4 HDV2 HA2
 go_upto_region 5 with (fail)
 have oA:=(Only.refl [] w7).alloc (.cells #[.string sn4,.slice a14 l14 c14,.slice a24 l24 c24,.slice a34 l34 c34,.slice a44 l44 c44] 27)
 have hA:=heap_new w7 (.cells #[.string sn4,.slice a14 l14 c14,.slice a24 l24 c24,.slice a34 l34 c34,.slice a44 l44 c44] 27)
 obtain ⟨gd4,hgd⟩:∃ g,g=w7.heap.size:=⟨_,rfl⟩
 rw [← hgd] at hA⊢
 generalize w7.alloc (.cells #[.string sn4,.slice a14 l14 c14,.slice a24 l24 c24,.slice a34 l34 c34,.slice a44 l44 c44] 27)=w8 at oA hA⊢
 replace HO:=Hd (HO.out.trans oA (by simp))
 replace HA3:=Hd (oA.heap HA3.out (by simp))
 replace HDV3:=Hd (HDV3.out.kept oA (by simp) (fun _ h=>h))
 clear oA hA hgd
 obtain ⟨x1,x2,x3,x4,he,-,-,hb,-⟩:=HDV3.out
 injection he with _ he
 injection he with _ he
 injection he with _ he
 injection he with he _
 subst he
 have hlen:(turnD dA).body.length=3:=by
  have:=congrArg List.length HKA.out.2
  simpa using this
 have e1:l33=3:=by
  obtain ⟨a0,c0,e0,-,-⟩:=hb
  injection e0 with _ e1 _
  exact e1.trans hlen
 subst e1
 obtain ⟨-,gr,k0,nm0,ys0,nn0,bd0,els0,p0,f1,f2,f3,f4,f5,f6,rfl,he0,z0,-⟩:=hb.elem (j:=0) (by omega)
 obtain ⟨-,gr',k1,nm1,ys1,nn1,bd1,els1,p1,f1,f2,f3,f4,f5,f6,hgr,he1,z1,-⟩:=hb.elem (j:=1) (by omega)
 cases hgr
 obtain ⟨-,gr',k2,nm2,ys2,nn2,bd2,els2,p2,f1,f2,f3,f4,f5,f6,hgr,he2,z2,-⟩:=hb.elem (j:=2) (by omega)
 cases hgr
 have t0:=kinds_at HKA.out.2 he0
 have t1:=kinds_at HKA.out.2 he1
 have t2:=kinds_at HKA.out.2 he2
 simp only [List.getElem?_cons_zero,List.getElem?_cons_succ,Option.some.injEq] at t0 t1 t2
 subst t0 t1 t2
 clear he0 he1 he2 hb HDV3 hlen HKA HKB
 have y3:=cell_at 3 HA3.out
 simp only [List.getElem?_toArray,List.getElem?_cons_zero,List.getElem?_cons_succ] at y3
 have q1:=nil_nilT
 have q2:=e13_e13
 go_wp2_with fail
 go_ret
 exact ⟨rfl,HO.out⟩
end Go.Proofs.Ytagkbbcpbebapaa
