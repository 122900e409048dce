/- EvalRuns, for every input: it returns true, and its argument reads behind the call as it did: a run by the program and one by the document come to the same. -/
import Derived.Test.YtiaeagpepfmfgaaWar
import Derived.Test.YtiaeagpepfmfgaaZgr
import Derived.Test.YtiaeagpepfmfgaaZ22r
namespace Go.Proofs.Ytiaeagpepfmfgaa
open Go.ChangeShapes Go.WideShapes Go.ChangeAt Go.RowKit Go.Maps
set_option linter.unusedVariables false
set_option linter.unusedSimpArgs false
theorem num_errV (k:Int) (w:World):Calls Try.prog 14 #[errV k] w fun e w'=>e=.returned (.int .i64 k)∧w=w':=by
 unfold errV
 split
 ·rename_i h
  subst h
  exact num_nil w
 ·exact num_err k w (by assumption)
theorem OCe.lt0 {w:World} {g n cap:Nat} {l:List Int} (h:OCe w (.slice (some ⟨g,0,none⟩) n cap) l):g < w.heap.size:=by
 rcases h.2 with ⟨e,_⟩ | ⟨g',cap',cur,e,_,hg,_⟩
 ·cases e
 ·obtain ⟨e1,-,-⟩:=Value.slice.inj e
  cases e1
  exact lt_of_heap hg
theorem ints_one77 {w:World} {g:Nat} (h:w.heap[g]?=some (.cells #[.int .i64 (-77)] 3 (0,0))):IntsV w (.slice (some ⟨g,0,none⟩) 1 1) [-77]:=by
 refine ⟨_,1,rfl,fun i k hi=>?_⟩
 rcases i with _ | i
 ·simp only [List.getElem?_cons_zero,Option.some.injEq] at hi
  subst hi
  exact ⟨n64_wf (by unfold n64;decide),_,0,rfl,cell_at 0 h⟩
 ·simp at hi
set_option maxRecDepth 100000 in
set_option maxHeartbeats 8000000 in
theorem eruns_walk (s:ByteArray) (bv cv:Value) (l m:List Int) (w:World) (hs:s.size≤maxLen) (hb:IntsV w bv l) (_:Fit bv) (hl:l.length≤maxLen) (hc:IntsV w cv m) (_:Fit cv) (hm8:m.length*8≤reachBytes) :
    Calls Try.prog 3 #[.agg #[.string s,bv,cv]] w fun e w'=>e=.returned (.bool true)∧Only [] w w':=by
  have hs':s.size≤9223372036854775807:=by unfold maxLen at hs;omega
  have hm:m.length≤maxLen:=by unfold reachBytes at hm8;unfold maxLen;omega
  have hl':l.length≤9223372036854775807:=by unfold maxLen at hl;omega
  obtain ⟨ba,bcap,rfl,-⟩:=id hb
  obtain ⟨ca,ccap,rfl,-⟩:=id hc
  have HB:=Hd hb
  have HC:=Hd hc
  have HM:=Hd hm
  have hm8':m.length*8≤140737488351232:=hm8
  have HM64:=Hd (ints_n64 hc)
  have HL:=Hd hl'
  have HCW:=Hd (cw_fil (ints_n64 hb) 60)
  obtain ⟨c,hcd⟩:∃ c,c=filC l 60:=⟨_,rfl⟩
  rw [← hcd] at HCW
  have HCD:=Hd hcd
  have H61:Hid ((5 :: c).length=61):=Hd (by rw [List.length_cons,HCW.out.len])
  obtain ⟨ln,hln⟩:∃ n,n=l.length:=⟨_,rfl⟩
  obtain ⟨mn,hmn⟩:∃ n,n=m.length:=⟨_,rfl⟩
  rw [← hln] at HB⊢
  rw [← hmn] at HC hm8'⊢
  have HMN:=Hd hmn
  clear hs hb hl hc hm hm8 hcd hln hmn hl'
  have T1:=trivial
  have T2:=trivial
  go_enter Try.func3,Try.ntmps3
  go_upto_region 1 with (fail)
  have oX:=(Only.refl [] w).alloc (.cells #[.string s,.slice ba ln bcap,.slice ca mn ccap] 24)
  have hX:=heap_new w (.cells #[.string s,.slice ba ln bcap,.slice ca mn ccap] 24)
  obtain ⟨gx,hgx⟩:∃ g,g=w.heap.size:=⟨_,rfl⟩
  rw [← hgx] at hX⊢
  generalize w.alloc (.cells #[.string s,.slice ba ln bcap,.slice ca mn ccap] 24)=wx at oX hX⊢
  have HO:=Hd oX
  have HX:=Hd hX
  clear oX hX hgx
  go_wp2_with fail
  refine (alive9_any wx).mono ?_
  rintro e w0 ⟨rfl,o0⟩
  replace HO:=Hd (HO.out.trans o0 (by simp))
  replace HX:=Hd (o0.heap HX.out (by simp))
  have x0:w0.cell? ⟨gx,0,none⟩=some (.string s):=cell_at 0 HX.out
  clear o0
  obtain ⟨R,hR⟩:∃ R,R=parseS s.data.toList:=⟨_,rfl⟩
  have K1:=rparse_any s w0 hs'
  rw [← hR] at K1
  have HR:=Hd hR
  clear hR
  go_wp2_with fail
  refine K1.mono ?_
  rintro e w1 ⟨sn,a1,a2,a3,a4,l1,l2,l3,l4,c1,c2,c3,c4,bc,bp,rfl,herr,hok,o1⟩
  replace HO:=Hd (HO.out.trans o1 (by simp))
  replace HX:=Hd (o1.heap HX.out (by simp))
  clear K1 o1 x0
  cases R with
  | error q=>
    obtain ⟨k,p0⟩:=q
    obtain ⟨rfl,rfl⟩:=herr k p0 rfl
    have hk:=parseS_code HR.out.symm
    have hk':((bc:Int) != 0)=true:=by simp;omega
    clear herr hok hk
    go_upto_region 4 with (fail)
    have o5:=(Only.refl [] w1).alloc (.cells #[.string sn,.slice a1 l1 c1,.slice a2 l2 c2,.slice a3 l3 c3,.slice a4 l4 c4] 30)
    generalize w1.alloc (.cells #[.string sn,.slice a1 l1 c1,.slice a2 l2 c2,.slice a3 l3 c3,.slice a4 l4 c4] 30)=w3 at o5⊢
    replace HO:=Hd (HO.out.trans o5 (by simp))
    clear o5
    go_wp2_with fail
    go_ret
    exact ⟨rfl,HO.out⟩
  | ok d=>
    obtain ⟨rfl,rfl,hdv⟩:=hok d rfl
    have HDV:=Hd hdv
    have HWH:=Hd (parse_whole HR.out.symm)
    have HPL:=Hd (parse_plain HR.out.symm)
    have HGD:=Hd (parse_good HR.out.symm)
    have HL4:Hid (l4=d.give.length):=Hd (by
      obtain ⟨-,-,-,⟨x1,x2,e,-⟩⟩:=hdv.parts
      cases e;rfl)
    clear herr hok hdv
    go_upto_region 4 with (fail)
    have oA:=(Only.refl [] w1).alloc (.cells #[.string sn,.slice a1 l1 c1,.slice a2 l2 c2,.slice a3 l3 c3,.slice a4 l4 c4] 30)
    have hA:=heap_new w1 (.cells #[.string sn,.slice a1 l1 c1,.slice a2 l2 c2,.slice a3 l3 c3,.slice a4 l4 c4] 30)
    obtain ⟨gd,hgd⟩:∃ g,g=w1.heap.size:=⟨_,rfl⟩
    rw [← hgd] at hA⊢
    generalize w1.alloc (.cells #[.string sn,.slice a1 l1 c1,.slice a2 l2 c2,.slice a3 l3 c3,.slice a4 l4 c4] 30)=w2 at oA hA⊢
    replace HO:=Hd (HO.out.trans oA (by simp))
    replace HX:=Hd (oA.heap HX.out (by simp))
    replace HDV:=Hd (HDV.out.kept oA (by simp) (fun _ h=>h))
    have HA:=Hd hA
    clear oA hA hgd
    have x1:w2.cell? ⟨gx,1,none⟩=some (.slice ba ln bcap):=cell_at 1 HX.out
    go_wp2_with fail
    refine (filled9_any _ l w2 (HB.out.kept HO.out (by intro a n c e h;simp)) HL.out).mono ?_
    rintro e w5 ⟨rfl,o5⟩
    rw [← HCD.out]
    replace HO:=Hd (HO.out.trans o5 (by simp))
    replace HX:=Hd (o5.heap HX.out (by simp))
    replace HDV:=Hd (HDV.out.kept o5 (by simp) (fun _ h=>h))
    replace HA:=Hd (o5.heap HA.out (by simp))
    clear o5 x1
    go_upto_region 7 with (first
      | (clear T1
         refine wpList_new_page rfl rfl ?_
         intro w6 gp hbp hgp hop
         have HP6:=Hd hbp
         have HOP:=Hd hop
         have HGP:=Hd hgp
         clear hbp hgp hop)
      | (refine wpList_store_page rfl _ _ rfl gp (5 :: c) (by rfl) (by rfl) H61.out _ HP6.out (by rfl) ?_
         intro w7 hb7 ho7))
    have o57:Only [] w5 w7:=HOP.out.trans ho7 (fun k hk=>.inr (by rw [List.mem_singleton.1 hk];exact HGP.out))
    replace HO:=Hd (HO.out.trans o57 (by simp))
    replace HX:=Hd (o57.heap HX.out (by simp))
    replace HDV:=Hd (HDV.out.kept o57 (by simp) (fun _ h=>h))
    replace HA:=Hd (o57.heap HA.out (by simp))
    have HP:=Hd hb7
    clear HP6 HOP HGP hb7 ho7 o57
    have x2:w7.cell? ⟨gx,2,none⟩=some (.slice ca mn ccap):=cell_at 2 HX.out
    have HC0:=Hd (HC.out.kept HO.out (by intro a n c e h;simp))
    (try simp only [Act.put,List.setIfInBounds_toArray,List.set_cons_zero,List.set_cons_succ])
    go_cut [7] from 28 to 42 (fun av wx=>∃ g cap,av=.slice (some ⟨g,0,none⟩) mn cap∧mn+1≤cap∧cap≤maxLen∧Hid (IntsV wx (.slice (some ⟨g,0,none⟩) mn cap) m)∧Hid (wx.cell? ⟨g,mn,none⟩=some (.int .i64 (-77)))∧Hid (Only [] w7 wx))
    case first=>
      have oD:Only [] w7 w7.drew:=(Only.refl [] w7).drew
      refine wp_region_held_drew (S:=fun w'=>w'.cell? ⟨gx,2,none⟩=some (.slice ca mn ccap)) (by kernel_rfl) (cell_kept oD x2 (by simp)) (fun hH=>?_)
      have HOD:=Hd oD
      have HXD:=Hd (oD.heap HX.out (by simp))
      replace HC0:=Hd (HC0.out.kept oD (by intro a n c e h;simp))
      clear oD x2
      generalize w7.drew=wd at HOD HXD HC0 hH⊢
      have HOZ:=Hd (Only.refl [] wd)
      refine tk 0 hH ?_
      refine tk 1 hH ?_
      refine tk 2 hH ?_
      refine tk 3 hH ?_
      refine tk 5 hH ?_
      refine tk 6 hH ?_
      refine tk 10 hH ?_
      refine tk 11 hH ?_
      refine tk 12 hH ?_
      refine wpAnyH_ready (rs:=[4,8]) (by kernel_rfl) (by simp) ?_
      refine ready_two rfl rfl (fun K hK=>?_) (fun K hK=>?_)
      · skip
        have hwr:IntKind.i64.wrap ((mn:Int)+1)=((mn+1:Nat):Int):=by rw [IntKind.wrap_i64];omega
        refine step_make_ce (by rfl) (.tmp 31) (by rfl) _ (mn+1) (by rfl) hwr (by omega) (fun wa g4 h4 e4 o4=>?_)
        have hg4:wd.heap.size≤g4:=by rw [e4];exact HOZ.out.size
        have hg4':wd.heap.size≤g4:=Nat.le_of_eq e4.symm
        replace HOZ:=Hd (HOZ.out.trans o4 (by simp))
        have HM4:=Hd h4
        have hl4:g4 < wa.heap.size:=h4.lt0
        skip
        refine hK.out _ _ (cell_at 2 (HOZ.out.heap HXD.out (by simp))) (fun hH=>?_)
        clear hK K o4 h4 e4 hwr
        refine wpAnyH_ready (rs:=[7,8]) (by kernel_rfl) (by simp) ?_
        refine ready_two rfl rfl (fun K hK=>?_) (fun K hK=>?_)
        · skip
          refine step_append_oce (by rfl) (.tmp 32) (.tmp 34) (by rfl) (.slice (some ⟨g4,0,none⟩) 0 (mn+1)) (.slice ca mn ccap) [] m mn (by rw [HMN.out];simp) (by rfl) HM4.out (by rfl) (HC0.out.kept HOZ.out (by intro a n c e h;simp)) (by omega) (fun a7 c7 wb h7 x7=>?_)
          rw [List.nil_append] at h7
          have o7:Only [] wd wb:=HOZ.out.trans x7.only (fun q hq=>.inr (by
            have:=hq
            simp [Value.ownBlock] at this
            omega))
          have s7:∀ q,(Value.slice a7 mn c7).ownBlock=some q→q=g4∨wa.heap.size≤q:=fun q hq=>by
            rcases x7.src q hq with e | e
            · have:=e
              simp [Value.ownBlock] at this
              exact .inl this.symm
            · exact .inr e
          have hW7:wd.heap.size≤wa.heap.size:=HOZ.out.size
          skip
          replace HOZ:=Hd o7
          have HA7:=Hd h7
          have HS7:=Hd (show ∀ q,(Value.slice a7 mn c7).ownBlock=some q→wd.heap.size≤q from fun q hq=>(s7 q hq).elim (fun e=>by omega) (fun e=>Nat.le_trans hW7 e))
          refine hK.out _ _ (cell_at 2 (HOZ.out.heap HXD.out (by simp))) (fun hH=>?_)
          clear hK K o7 h7 x7 HM4
          refine rd 8 (fun K hK=>?_)
          go_simp
          have oN:=(Only.refl [] wb).alloc (.cells #[.int .i64 (-77)] 3)
          have hN:=heap_new wb (.cells #[.int .i64 (-77)] 3)
          obtain ⟨gn,hgn⟩:∃ gn,gn=wb.heap.size:=⟨_,rfl⟩
          rw [← hgn] at hN⊢
          generalize wb.alloc (.cells #[.int .i64 (-77)] 3)=wc at oN hN⊢
          replace HOZ:=Hd (HOZ.out.trans oN (by simp))
          have HN8:=Hd hN
          have hln:gn < wc.heap.size:=lt_of_heap hN
          have hgn':wb.heap.size≤gn:=Nat.le_of_eq hgn.symm
          replace HA7:=Hd (HA7.out.kept oN (by simp))
          refine hK.out _ _ (cell_at 2 (HOZ.out.heap HXD.out (by simp))) (fun hH=>?_)
          clear hK K oN hN hgn
          refine rd 9 (fun K hK=>?_)
          refine step_append_oce (by rfl) (.tmp 35) (.tmp 36) (by rfl) (.slice a7 mn c7) (.slice (some ⟨gn,0,none⟩) 1 1) m [-77] (mn+1) (by rw [HMN.out];simp) (by rfl) HA7.out (by rfl) (ints_one77 HN8.out) (by omega) (fun a9 c9 wz h9 x9=>?_)
          have o9:Only [] wd wz:=HOZ.out.trans x9.only (fun q hq=>.inr (HS7.out q (by simpa using hq)))
          have hmn:=HMN.out
          rw [hmn] at h9
          obtain ⟨g9,rfl,hc9,hc9m,hi9,hz9⟩:=h9.front HM64.out
          rw [← hmn] at hc9 hi9 hz9
          replace HOZ:=Hd o9
          have HI9:=Hd hi9
          have HZ9:=Hd hz9
          have hc9':(mn:Int)≤(c9:Int):=by omega
          refine hK.out _ _ (cell_at 2 (HOZ.out.heap HXD.out (by simp))) (fun hH=>?_)
          clear hK K o9 h9 x9 hi9 hz9 HA7 HS7 HN8 hmn
          refine tk 13 hH ?_
          refine tk 14 hH ?_
          refine wpAnyH_done (by kernel_rfl) ?_ _
          clear hH
          go_wp2_with fail
          go_meet
          exact ⟨g9,c9,rfl,hc9,hc9m,HI9,HZ9,Hd (HOD.out.trans HOZ.out (by simp))⟩
        · go_simp
          have oN:=(Only.refl [] wa).alloc (.cells #[.int .i64 (-77)] 3)
          have hN:=heap_new wa (.cells #[.int .i64 (-77)] 3)
          obtain ⟨gn,hgn⟩:∃ gn,gn=wa.heap.size:=⟨_,rfl⟩
          rw [← hgn] at hN⊢
          generalize wa.alloc (.cells #[.int .i64 (-77)] 3)=wb at oN hN⊢
          replace HOZ:=Hd (HOZ.out.trans oN (by simp))
          have HN8:=Hd hN
          have hln:gn < wb.heap.size:=lt_of_heap hN
          have hgn':wa.heap.size≤gn:=Nat.le_of_eq hgn.symm
          replace HM4:=Hd (HM4.out.kept oN (by simp))
          refine hK.out _ _ (cell_at 2 (HOZ.out.heap HXD.out (by simp))) (fun hH=>?_)
          clear hK K oN hN hgn
          refine rd 7 (fun K hK=>?_)
          refine step_append_oce (by rfl) (.tmp 32) (.tmp 34) (by rfl) (.slice (some ⟨g4,0,none⟩) 0 (mn+1)) (.slice ca mn ccap) [] m mn (by rw [HMN.out];simp) (by rfl) HM4.out (by rfl) (HC0.out.kept HOZ.out (by intro a n c e h;simp)) (by omega) (fun a7 c7 wc h7 x7=>?_)
          rw [List.nil_append] at h7
          have o7:Only [] wd wc:=HOZ.out.trans x7.only (fun q hq=>.inr (by
            have:=hq
            simp [Value.ownBlock] at this
            omega))
          have s7:∀ q,(Value.slice a7 mn c7).ownBlock=some q→q=g4∨wb.heap.size≤q:=fun q hq=>by
            rcases x7.src q hq with e | e
            · have:=e
              simp [Value.ownBlock] at this
              exact .inl this.symm
            · exact .inr e
          have hW7:wd.heap.size≤wb.heap.size:=HOZ.out.size
          replace HN8:=Hd (x7.only.heap HN8.out (by simp [Value.ownBlock];omega))
          replace HOZ:=Hd o7
          have HA7:=Hd h7
          have HS7:=Hd (show ∀ q,(Value.slice a7 mn c7).ownBlock=some q→wd.heap.size≤q from fun q hq=>(s7 q hq).elim (fun e=>by omega) (fun e=>Nat.le_trans hW7 e))
          refine hK.out _ _ (cell_at 2 (HOZ.out.heap HXD.out (by simp))) (fun hH=>?_)
          clear hK K o7 h7 x7 HM4
          refine rd 9 (fun K hK=>?_)
          refine step_append_oce (by rfl) (.tmp 35) (.tmp 36) (by rfl) (.slice a7 mn c7) (.slice (some ⟨gn,0,none⟩) 1 1) m [-77] (mn+1) (by rw [HMN.out];simp) (by rfl) HA7.out (by rfl) (ints_one77 HN8.out) (by omega) (fun a9 c9 wz h9 x9=>?_)
          have o9:Only [] wd wz:=HOZ.out.trans x9.only (fun q hq=>.inr (HS7.out q (by simpa using hq)))
          have hmn:=HMN.out
          rw [hmn] at h9
          obtain ⟨g9,rfl,hc9,hc9m,hi9,hz9⟩:=h9.front HM64.out
          rw [← hmn] at hc9 hi9 hz9
          replace HOZ:=Hd o9
          have HI9:=Hd hi9
          have HZ9:=Hd hz9
          have hc9':(mn:Int)≤(c9:Int):=by omega
          refine hK.out _ _ (cell_at 2 (HOZ.out.heap HXD.out (by simp))) (fun hH=>?_)
          clear hK K o9 h9 x9 hi9 hz9 HA7 HS7 HN8 hmn
          refine tk 13 hH ?_
          refine tk 14 hH ?_
          refine wpAnyH_done (by kernel_rfl) ?_ _
          clear hH
          go_wp2_with fail
          go_meet
          exact ⟨g9,c9,rfl,hc9,hc9m,HI9,HZ9,Hd (HOD.out.trans HOZ.out (by simp))⟩
      · go_simp
        have oN:=(Only.refl [] wd).alloc (.cells #[.int .i64 (-77)] 3)
        have hN:=heap_new wd (.cells #[.int .i64 (-77)] 3)
        obtain ⟨gn,hgn⟩:∃ gn,gn=wd.heap.size:=⟨_,rfl⟩
        rw [← hgn] at hN⊢
        generalize wd.alloc (.cells #[.int .i64 (-77)] 3)=wa at oN hN⊢
        replace HOZ:=Hd (HOZ.out.trans oN (by simp))
        have HN8:=Hd hN
        have hln:gn < wa.heap.size:=lt_of_heap hN
        have hgn':wd.heap.size≤gn:=Nat.le_of_eq hgn.symm
        skip
        refine hK.out _ _ (cell_at 2 (HOZ.out.heap HXD.out (by simp))) (fun hH=>?_)
        clear hK K oN hN hgn
        refine rd 4 (fun K hK=>?_)
        have hwr:IntKind.i64.wrap ((mn:Int)+1)=((mn+1:Nat):Int):=by rw [IntKind.wrap_i64];omega
        refine step_make_ce (by rfl) (.tmp 31) (by rfl) _ (mn+1) (by rfl) hwr (by omega) (fun wb g4 h4 e4 o4=>?_)
        have hg4:wd.heap.size≤g4:=by rw [e4];exact HOZ.out.size
        have hg4':wa.heap.size≤g4:=Nat.le_of_eq e4.symm
        replace HOZ:=Hd (HOZ.out.trans o4 (by simp))
        have HM4:=Hd h4
        have hl4:g4 < wb.heap.size:=h4.lt0
        replace HN8:=Hd (o4.heap HN8.out (by simp))
        refine hK.out _ _ (cell_at 2 (HOZ.out.heap HXD.out (by simp))) (fun hH=>?_)
        clear hK K o4 h4 e4 hwr
        refine rd 7 (fun K hK=>?_)
        refine step_append_oce (by rfl) (.tmp 32) (.tmp 34) (by rfl) (.slice (some ⟨g4,0,none⟩) 0 (mn+1)) (.slice ca mn ccap) [] m mn (by rw [HMN.out];simp) (by rfl) HM4.out (by rfl) (HC0.out.kept HOZ.out (by intro a n c e h;simp)) (by omega) (fun a7 c7 wc h7 x7=>?_)
        rw [List.nil_append] at h7
        have o7:Only [] wd wc:=HOZ.out.trans x7.only (fun q hq=>.inr (by
          have:=hq
          simp [Value.ownBlock] at this
          omega))
        have s7:∀ q,(Value.slice a7 mn c7).ownBlock=some q→q=g4∨wb.heap.size≤q:=fun q hq=>by
          rcases x7.src q hq with e | e
          · have:=e
            simp [Value.ownBlock] at this
            exact .inl this.symm
          · exact .inr e
        have hW7:wd.heap.size≤wb.heap.size:=HOZ.out.size
        replace HN8:=Hd (x7.only.heap HN8.out (by simp [Value.ownBlock];omega))
        replace HOZ:=Hd o7
        have HA7:=Hd h7
        have HS7:=Hd (show ∀ q,(Value.slice a7 mn c7).ownBlock=some q→wd.heap.size≤q from fun q hq=>(s7 q hq).elim (fun e=>by omega) (fun e=>Nat.le_trans hW7 e))
        refine hK.out _ _ (cell_at 2 (HOZ.out.heap HXD.out (by simp))) (fun hH=>?_)
        clear hK K o7 h7 x7 HM4
        refine rd 9 (fun K hK=>?_)
        refine step_append_oce (by rfl) (.tmp 35) (.tmp 36) (by rfl) (.slice a7 mn c7) (.slice (some ⟨gn,0,none⟩) 1 1) m [-77] (mn+1) (by rw [HMN.out];simp) (by rfl) HA7.out (by rfl) (ints_one77 HN8.out) (by omega) (fun a9 c9 wz h9 x9=>?_)
        have o9:Only [] wd wz:=HOZ.out.trans x9.only (fun q hq=>.inr (HS7.out q (by simpa using hq)))
        have hmn:=HMN.out
        rw [hmn] at h9
        obtain ⟨g9,rfl,hc9,hc9m,hi9,hz9⟩:=h9.front HM64.out
        rw [← hmn] at hc9 hi9 hz9
        replace HOZ:=Hd o9
        have HI9:=Hd hi9
        have HZ9:=Hd hz9
        have hc9':(mn:Int)≤(c9:Int):=by omega
        refine hK.out _ _ (cell_at 2 (HOZ.out.heap HXD.out (by simp))) (fun hH=>?_)
        clear hK K o9 h9 x9 hi9 hz9 HA7 HS7 HN8 hmn
        refine tk 13 hH ?_
        refine tk 14 hH ?_
        refine wpAnyH_done (by kernel_rfl) ?_ _
        clear hH
        go_wp2_with fail
        go_meet
        exact ⟨g9,c9,rfl,hc9,hc9m,HI9,HZ9,Hd (HOD.out.trans HOZ.out (by simp))⟩
    case rest=>
      obtain ⟨ga,acap,rfl,hac,hacm,HIA,HZA,oa⟩:=hcut
      replace HO:=Hd (HO.out.trans oa.out (by simp))
      replace HX:=Hd (oa.out.heap HX.out (by simp))
      replace HDV:=Hd (HDV.out.kept oa.out (by simp) (fun _ h=>h))
      replace HA:=Hd (oa.out.heap HA.out (by simp))
      replace HP:=Hd (HP.out.kept oa.out (by simp))
      clear oa x2 HC0 HB
      have y0:wc.cell? ⟨gd,0,none⟩=some (.string sn):=cell_at 0 HA.out
      have y1:wc.cell? ⟨gd,1,none⟩=some (.slice a1 l1 c1):=cell_at 1 HA.out
      have y2:wc.cell? ⟨gd,2,none⟩=some (.slice a2 l2 c2):=cell_at 2 HA.out
      have y3:wc.cell? ⟨gd,3,none⟩=some (.slice a3 l3 c3):=cell_at 3 HA.out
      have y4:wc.cell? ⟨gd,4,none⟩=some (.slice a4 l4 c4):=cell_at 4 HA.out
      have KR:=run_any HDV.out HWH.out HPL.out HGD.out HCW.out (n:=5) HIA.out HM.out
      obtain ⟨r,hr⟩:∃ r,r=runP d 5 c m:=⟨_,rfl⟩
      rw [← hr] at KR
      have HRR:=Hd hr
      clear hr
      go_wp2_with (refine wpList_load_page rfl _ rfl gp (by rfl) (5 :: c) HP.out H61.out ?_)
      refine KR.mono ?_
      obtain ⟨⟨rn,rc⟩,rg,rk⟩:=r
      have hrc:rc.length=60:=by
        have h:=HRR.out
        rcases run_cases d 5 c m with ⟨k,-,h1,-⟩ | ⟨h2,-,h1⟩
        · rw [h1] at h;cases h;rfl
        · rw [h1] at h
          cases h
          exact (pgB_w d.body _ HWH.out.body HGD.out.body ⟨HCW.out,nw_last _ (zip_n64 (ints_n64 HC.out))⟩ (okB_of HWH.out HPL.out HGD.out h2).few).1.len
      have H60:=Hd hrc
      have H612:Hid ((rn :: rc).length=61):=Hd (by rw [List.length_cons,hrc])
      rintro e w8 ⟨rfl,oR⟩
      dsimp only
      replace HO:=Hd (HO.out.trans oR (by simp))
      replace HX:=Hd (oR.heap HX.out (by simp))
      replace HDV:=Hd (HDV.out.kept oR (by simp) (fun _ h=>h))
      replace HA:=Hd (oR.heap HA.out (by simp))
      replace HP:=Hd (HP.out.kept oR (by simp))
      replace HIA:=Hd (HIA.out.kept oR (by intro a n c e h;simp))
      replace HZA:=Hd (cell_kept oR HZA.out (by simp))
      clear KR oR y0 y1 y2 y3 y4 hrc
      go_upto_region 9 with (first
        | (clear T2
           refine wpList_new_page rfl rfl ?_
           intro w9 gq hbp hgp hop
           have HP6:=Hd hbp
           have HOP:=Hd hop
           have HGP:=Hd hgp
           clear hbp hgp hop)
        | (refine wpList_store_page rfl _ _ rfl gq (rn :: rc) (by rfl) (by rfl) H612.out _ HP6.out (by rfl) ?_
           intro w10 hb10 ho10))
      have o810:Only [] w8 w10:=HOP.out.trans ho10 (fun k hk=>.inr (by rw [List.mem_singleton.1 hk];exact HGP.out))
      replace HO:=Hd (HO.out.trans o810 (by simp))
      replace HX:=Hd (o810.heap HX.out (by simp))
      replace HDV:=Hd (HDV.out.kept o810 (by simp) (fun _ h=>h))
      replace HA:=Hd (o810.heap HA.out (by simp))
      replace HP:=Hd (HP.out.kept o810 (by simp))
      replace HIA:=Hd (HIA.out.kept o810 (by intro a n c e h;simp))
      replace HZA:=Hd (cell_kept o810 HZA.out (by simp))
      have HQ:=Hd hb10
      clear HP6 HOP HGP hb10 ho10 o810
      have y0:w10.cell? ⟨gd,0,none⟩=some (.string sn):=cell_at 0 HA.out
      have y1:w10.cell? ⟨gd,1,none⟩=some (.slice a1 l1 c1):=cell_at 1 HA.out
      have y2:w10.cell? ⟨gd,2,none⟩=some (.slice a2 l2 c2):=cell_at 2 HA.out
      have y3:w10.cell? ⟨gd,3,none⟩=some (.slice a3 l3 c3):=cell_at 3 HA.out
      have y4:w10.cell? ⟨gd,4,none⟩=some (.slice a4 l4 c4):=cell_at 4 HA.out
      have x2:w10.cell? ⟨gx,2,none⟩=some (.slice ca mn ccap):=cell_at 2 HX.out
      have KD:=rrun_any HDV.out HWH.out HPL.out HGD.out HCW.out (n:=5) (HC.out.kept HO.out (by intro a n c e h;simp)) HM.out
      rw [runD_eq HWH.out,← HRR.out] at KD
      have T2:=trivial
      go_wp2_with (refine wpList_load_page rfl _ rfl gp (by rfl) (5 :: c) HP.out H61.out ?_)
      refine KD.mono ?_
      rintro e w11 ⟨rfl,oR⟩
      dsimp only
      replace HO:=Hd (HO.out.trans oR (by simp))
      replace HX:=Hd (oR.heap HX.out (by simp))
      replace HQ:=Hd (HQ.out.kept oR (by simp))
      replace HIA:=Hd (HIA.out.kept oR (by intro a n c e h;simp))
      replace HZA:=Hd (cell_kept oR HZA.out (by simp))
      clear KD oR y0 y1 y2 y3 y4 x2
      go_upto_region 10 with (first
        | (clear T2
           refine wpList_new_page rfl rfl ?_
           intro w12 gz hbp hgp hop
           have HP6:=Hd hbp
           have HOP:=Hd hop
           have HGP:=Hd hgp
           clear hbp hgp hop)
        | (refine wpList_store_page rfl _ _ rfl gz (rn :: rc) (by rfl) (by rfl) H612.out _ HP6.out (by rfl) ?_
           intro w13 hb13 ho13))
      have o1113:Only [] w11 w13:=HOP.out.trans ho13 (fun k hk=>.inr (by rw [List.mem_singleton.1 hk];exact HGP.out))
      replace HO:=Hd (HO.out.trans o1113 (by simp))
      replace HX:=Hd (o1113.heap HX.out (by simp))
      replace HQ:=Hd (HQ.out.kept o1113 (by simp))
      replace HIA:=Hd (HIA.out.kept o1113 (by intro a n c e h;simp))
      replace HZA:=Hd (cell_kept o1113 HZA.out (by simp))
      have HZ:=Hd hb13
      clear HP6 HOP HGP hb13 ho13 o1113
      have x2:w13.cell? ⟨gx,2,none⟩=some (.slice ca mn ccap):=cell_at 2 HX.out
      have D2:=Hd (show (decide (rn=rn) && decide (rc=rc))=true by simp)
      have v1:(rg == rg)=true:=by simp
      have v2:(rk == rk)=true:=by simp
      go_simp
      repeat (first
        | (guard_target =~ Oper.wp _ (Oper.mk (some 59) _ _ _ _ _) _ _ _ _;refine wp_page_load (.tmp 8) rfl gq (by rfl) (rn :: rc) HQ.out H612.out ?_;simp only [Act.put,List.setIfInBounds_toArray,List.set_cons_zero,List.set_cons_succ])
        | (guard_target =~ Oper.wp _ (Oper.mk (some 60) _ _ _ _ _) _ _ _ _;refine wp_page_load (.tmp 11) rfl gz (by rfl) (rn :: rc) HZ.out H612.out ?_;simp only [Act.put,List.setIfInBounds_toArray,List.set_cons_zero,List.set_cons_succ])
        | (guard_target =~ Oper.wp _ (Oper.mk (some 61) _ _ _ _ _) _ _ _ _;refine wp_page_eql (.tmp 59) (.tmp 60) rfl rn rn rc rc (by rfl) (by rfl) H60.out H60.out ?_;rw [D2.out];simp only [Act.put,List.setIfInBounds_toArray,List.set_cons_zero,List.set_cons_succ])
        | go_values | go_skip | go_guarded | go_step | go_upon)
      refine (num_errV rk _).mono ?_
      rintro e wn ⟨rfl,rfl⟩
      dsimp only
      repeat (first
        | (guard_target =~ Oper.wp _ (Oper.mk (some 59) _ _ _ _ _) _ _ _ _;refine wp_page_load (.tmp 8) rfl gq (by rfl) (rn :: rc) HQ.out H612.out ?_;simp only [Act.put,List.setIfInBounds_toArray,List.set_cons_zero,List.set_cons_succ])
        | (guard_target =~ Oper.wp _ (Oper.mk (some 60) _ _ _ _ _) _ _ _ _;refine wp_page_load (.tmp 11) rfl gz (by rfl) (rn :: rc) HZ.out H612.out ?_;simp only [Act.put,List.setIfInBounds_toArray,List.set_cons_zero,List.set_cons_succ])
        | (guard_target =~ Oper.wp _ (Oper.mk (some 61) _ _ _ _ _) _ _ _ _;refine wp_page_eql (.tmp 59) (.tmp 60) rfl rn rn rc rc (by rfl) (by rfl) H60.out H60.out ?_;rw [D2.out];simp only [Act.put,List.setIfInBounds_toArray,List.set_cons_zero,List.set_cons_succ])
        | go_values | go_skip | go_guarded | go_step | go_upon)
      refine (ints_same _ _ m _ HIA.out (HC.out.kept HO.out (by intro a n c e h;simp)) (by have:=HM.out;unfold maxLen at this;rw [← HMN.out];omega)).mono ?_
      rintro e wi ⟨rfl,oi⟩
      dsimp only
      have hz:wi.cell? ⟨ga,mn,none⟩=some (.int .i64 (-77)):=cell_kept oi HZA.out (by simp)
      have HOi:=Hd (HO.out.trans oi (by simp))
      have hac1:(mn:Int)+1≤(acap:Int):=by omega
      have hac2:wrap64 ((mn:Int)+1)=(mn:Int)+1:=by unfold wrap64;omega
      have hac3:(mn:Int) < (mn:Int)+1:=by omega
      have hac4:(0:Int)≤(mn:Int):=by omega
      clear oi x2
      repeat (first
        | (guard_target =~ Oper.wp _ (Oper.mk (some 59) _ _ _ _ _) _ _ _ _;refine wp_page_load (.tmp 8) rfl gq (by rfl) (rn :: rc) HQ.out H612.out ?_;simp only [Act.put,List.setIfInBounds_toArray,List.set_cons_zero,List.set_cons_succ])
        | (guard_target =~ Oper.wp _ (Oper.mk (some 60) _ _ _ _ _) _ _ _ _;refine wp_page_load (.tmp 11) rfl gz (by rfl) (rn :: rc) HZ.out H612.out ?_;simp only [Act.put,List.setIfInBounds_toArray,List.set_cons_zero,List.set_cons_succ])
        | (guard_target =~ Oper.wp _ (Oper.mk (some 61) _ _ _ _ _) _ _ _ _;refine wp_page_eql (.tmp 59) (.tmp 60) rfl rn rn rc rc (by rfl) (by rfl) H60.out H60.out ?_;rw [D2.out];simp only [Act.put,List.setIfInBounds_toArray,List.set_cons_zero,List.set_cons_succ])
        | go_values | go_skip | go_guarded | go_step | go_upon)
      go_ret
      exact ⟨rfl,HOi.out⟩
set_option maxRecDepth 100000 in
theorem eruns_lifted (os:Os) (started:os.Started) (H:Type) (enc:TypeId×Value→H) :
  ReturnsInHanded {} Try.checked os 3 .any (Rows.evalRunsSpec.pre6 enc Try.prog Try.f3 Rows.evalRunsRow.domain false) (Rows.evalRunsSpec.post enc Try.prog Try.f3 false true false false):=by
 refine returnsInHanded_of_change_sized (C:=Try.checked) law_own started (by kernel_rfl) Try.func3
  (ChangeSpec.witness6 (enc:=enc) (C:=Try.checked) false ⟨#[],#[.agg #[.string ⟨#[]⟩,.slice none 0 0,.slice none 0 0]],[]⟩ 8 (by kernel_rfl) (by kernel_rfl) (by kernel_rfl) (by kernel_rfl)) ?_
 intro W base args ds gs before hval0 hW hcnd hsz0 _
 have hsz:(DataW.weightsEach Try.prog (Try.f3.params.toList++Rows.evalRunsSpec.plain.varTypes Try.prog) (ds++gs)).all (·≤reachBytes)=true:=hsz0
 have hval:∀ (j:Nat) t v,Try.f3.params[j]?=some t→args[j]?=some v→Value.okWide Try.prog W .any base t v:=hval0
 have hW':=hW
 obtain ⟨p,q,hA0,hV,rfl,hfz,hnd⟩:=hW
 have hA:DataW.TrodAll enc Try.prog W 0 (fun _=>true) true Try.f3.params.toList args.toList ds p:=hA0
 rw [Try.params3] at hA hval hsz
 obtain ⟨v0,vs0,d0,ds0,p0,q0,hargs,rfl,rfl,h0,r0⟩:=trodAll_cons hA
 obtain ⟨rfl,rfl,rfl⟩:=trodAll_nil r0
 obtain rfl:args=#[v0]:=by cases args;simp_all
 obtain ⟨rfl,rfl⟩:=trodVars_none hV
 have h0':=h0
 have hw0:∀ z∈DataW.weights Try.prog 24 d0,z≤reachBytes:=fun z hz=>by simpa using List.all_eq_true.1 hsz _ (DataW.weights_mem_each (j:=0) (t:=24) (d:=d0) rfl rfl z hz)
 obtain ⟨s0,b0,l0,c0,m0,rfl,hs0,hb0,hg0,hl0,hc0,hk0,hm0⟩:=open_case9s (hval 0 24 v0 rfl rfl) h0 hw0
 have hlt0:∀ x∈p0,x.block < W.heap.size:=fun x hx=>hW'.lt x (by simp [hx])
 clear hA0 hval0
 refine (eruns_walk s0 b0 c0 l0 m0 W hs0 hb0 hg0 hl0 hc0 hk0 hm0).mono fun e W' ⟨he,hg⟩=>?_
 subst he
 exact ⟨_,rfl,post_quiet (pa:=(p0++[])) (pv:=[]) hW' hg (fun _ _ _=>(trodAll_cons_mk (shut_bool Try.underlying4 _) trodAll_mk0)) (fun sp hsp=>(trodAll_cons_mk (arg_stays (by kernel_rfl) (of_decide_eq_true (by kernel_rfl)) h0' hg hlt0 (fun x hx=>hsp x (by simp [hx]))) trodAll_mk0)) (fun _ _=>rfl) (by simp) (ok_one (by kernel_rfl) rfl (okWide_bool_mk Try.underlying4 _))⟩
theorem eruns_over:Rows.evalRunsRow.holds Try.pinned (OpenSpec.ofChange Rows.evalRunsSpec):=
 OpenClaim.holds_of_wide 3 Try.f3 rfl rfl rfl rfl rfl rfl rfl ⟨rfl,rfl,rfl,rfl,rfl⟩ rfl rfl rfl rfl rfl (by kernel_rfl) Try.func3 (by kernel_rfl)
  (of_decide_eq_true (by kernel_rfl)) (by unfold Func.isWrapper;first | (rw [if_pos (by decide +kernel)];kernel_rfl) | (rw [if_neg (by decide +kernel)];exact ⟨rfl,rfl⟩))
  (fun os started H enc _=>eruns_lifted os started H enc)
theorem eruns_holds:Rows.EvalRunsSaid:=
 eruns_over
#print axioms eruns_holds
end Go.Proofs.Ytiaeagpepfmfgaa
