/- InvertAgain, for every input: it returns true, and its argument reads behind the call as it did: turned twice an operation does what its statements do; the turned one is checked, with the same info. No condition. -/
import Derived.Test.YtagkbbcpbebapaaIfr
import Derived.Test.YtagkbbcpbebapaaWar
import Derived.Test.YtagkbbcpbebapaaZgr
import Derived.ChangeMaps5
namespace Go.Proofs.Ytagkbbcpbebapaa
open Go.ChangeShapes Go.WideShapes Go.ChangeAt Go.RowKit Go.Maps
set_option linter.unusedVariables false
set_option linter.unusedSimpArgs false
theorem fields_infoT:(Try.prog.fieldsOf 51).toList.map (fun f=>(f.name == "_",f.type,f.offset))=[(false,3,0),(false,3,1),(false,3,2),(false,4,3)]:=by kernel_rfl
theorem info_neq (m s n:Int) (t:Bool) (w:World):(binOp .neq 51 (.agg #[.int .i64 m,.int .i64 s,.int .i64 n,.bool t]) (.agg #[.int .i64 m,.int .i64 s,.int .i64 n,.bool t])).run Try.prog w=.ok (.bool false) w:=by
 have p0:∀ w,(part 3 #[.int .i64 m,.int .i64 s,.int .i64 n,.bool t] 0).run Try.prog w=.ok (.int .i64 m) w:=fun w=>by simp [part,isAgg,run_underlying Try.underlying3]
 have p1:∀ w,(part 3 #[.int .i64 m,.int .i64 s,.int .i64 n,.bool t] 1).run Try.prog w=.ok (.int .i64 s) w:=fun w=>by simp [part,isAgg,run_underlying Try.underlying3]
 have p2:∀ w,(part 3 #[.int .i64 m,.int .i64 s,.int .i64 n,.bool t] 2).run Try.prog w=.ok (.int .i64 n) w:=fun w=>by simp [part,isAgg,run_underlying Try.underlying3]
 have p3:∀ w,(part 4 #[.int .i64 m,.int .i64 s,.int .i64 n,.bool t] 3).run Try.prog w=.ok (.bool t) w:=fun w=>by simp [part,isAgg,run_underlying Try.underlying4]
 rw [run_neq_struct,show (10000:Nat)=9998+2 from rfl,run_equalIn_struct w (9998+1) 51 _ _ (by kernel_rfl) (by kernel_rfl)]
 have hf:=fields_infoT
 generalize (Try.prog.fieldsOf 51).toList=fs at hf⊢
 rcases fs with _ | ⟨f0,_ | ⟨f1,_ | ⟨f2,_ | ⟨f3,_ | ⟨f4,r⟩⟩⟩⟩⟩
 ·simp at hf
 ·simp at hf
 ·simp at hf
 ·simp at hf
 ·simp only [List.map_cons,List.map_nil,List.cons.injEq,Prod.mk.injEq,beq_eq_false_iff_ne,ne_eq,and_true] at hf
  obtain ⟨⟨a1,a2,a3⟩,⟨b1,b2,b3⟩,⟨c1,c2,c3⟩,d1,d2,d3⟩:=hf
  simp only [Op.eqFields,ne_eq,a1,b1,c1,d1,not_false_eq_true,if_true,a2,a3,b2,b3,c2,c3,d2,d3,Sem.run_bind,Sem.run_ite,p0,p1,p2,p3,Result.andThen_ok,run_equalIn_int w 9998 3 .i64 .i64 _ _ Try.underlying3,run_equalIn_bool w 9998 4 _ _ Try.underlying4]
  simp
 ·simp at hf
theorem num_errT (k:Int) (w:World):Calls Try.prog 14 #[errV k] w fun e w'=>e=.returned (.int .i64 k)∧w=w':=by
 unfold errV
 split
 ·rename_i h
  subst h
  exact num_nil w
 ·exact num_err k w (by assumption)
def bareD (d:Df):Df:=⟨d.name,d.params,[],d.body,[]⟩
theorem bare_whole {d:Df} (h:Whole d):Whole (bareD d):=
 ⟨wL_none,h.body,wL_none,by simp [bareD],by have:=h.size;show sizeL []+sizeSs d.body+sizeL []≤480;rw [sizeL_nil];omega,h.params,h.plen⟩
theorem bare_good {d:Df} (h:Good d):Good (bareD d):=⟨h.params,gL_nil,h.body,gL_nil⟩
theorem bare_dv {w:World} {B:Nat→Prop} {d:Df} {sn:ByteArray} {v1 v2 v3 v4:Value} (h:DV w B d [.string sn,v1,v2,v3,v4]):DV w B (bareD d) [.string sn,v1,.slice none 0 0,v3,.slice none 0 0]:=by
 obtain ⟨u1,u2,u3,u4,e,n1,-,n3,-⟩:=h
 cases e
 exact ⟨_,_,_,_,rfl,n1,EsV.nil _ _,n3,EsV.nil _ _⟩
theorem run_again {d:Df} (hw:Whole d) (h:Turns d) (h1:d.needs=[]) (h2:d.give=[]) {n:Int} {c av:List Int} (hc:CW c):runP (turnD (turnD d)) n c av=runP d n c av:=by
 have t1:=turn_turns hw h
 have w1:=turn_whole hw
 have t2:=turn_turns w1 t1
 by_cases hl:av.length=d.params.length
 ·rw [runP_bare (d:=turnD (turnD d)) t2.1 rfl rfl n c av hl,runP_bare h.1 h1 h2 n c av hl,ranC_twice hw h hc]
 ·unfold runP
  have h0:¬ (none:Option (Int×Int)).isSome=true:=by decide
  have hl':av.length≠(turnD (turnD d)).params.length:=hl
  rw [h.1,t2.1,if_neg h0,if_neg h0,if_pos hl,if_pos hl']
theorem chk_none {d:Df} (h:(opS CS.new d).flt=none):chkD d=(opI CS.new d,0,0):=by unfold chkD;rw [h]
set_option maxRecDepth 100000 in
set_option maxHeartbeats 16000000 in
theorem iagain_walk (s1:ByteArray) (bv1 cv1:Value) (l1 m1:List Int) (w:World) (hs1:s1.size≤maxLen) (hb1:IntsV w bv1 l1) (_:Fit bv1) (hl1:l1.length≤maxLen) (hc1:IntsV w cv1 m1) (_:Fit cv1) (hm1:m1.length≤maxLen) :
    Calls Try.prog 5 #[.agg #[.string s1,bv1,cv1]] w fun e w'=>e=.returned (.bool true)∧Only [] w w':=by
  have hs1':s1.size≤9223372036854775807:=by unfold maxLen at hs1;omega
  have hl':l1.length≤9223372036854775807:=by unfold maxLen at hl1;omega
  obtain ⟨ba1,bc1,rfl,-⟩:=id hb1
  obtain ⟨ca1,cc1,rfl,-⟩:=id hc1
  have HB:=Hd hb1
  have HC1:=Hd hc1
  have HM1:=Hd hm1
  have HL:=Hd hl'
  have HCW:=Hd (cw_fil (ints_n64 hb1) 60)
  obtain ⟨c,hcd⟩:∃ c,c=filC l1 60:=⟨_,rfl⟩
  rw [← hcd] at HCW
  have HCD:=Hd hcd
  have H61:Hid ((5 :: c).length=61):=Hd (by rw [List.length_cons,HCW.out.len])
  obtain ⟨ln1,hln⟩:∃ n,n=l1.length:=⟨_,rfl⟩
  obtain ⟨mn1,hmn⟩:∃ n,n=m1.length:=⟨_,rfl⟩
  rw [← hln] at HB⊢
  rw [← hmn] at HC1⊢
  clear hs1 hb1 hl1 hc1 hm1 hcd hln hmn hl'
  have T1:=trivial
  have T2:=trivial
  have T3:=trivial
  have T4:=trivial
  have T5:=trivial
  go_enter Try.func5,Try.ntmps5
  go_upto_region 1 with (fail)
  have oX:=(Only.refl [] w).alloc (.cells #[.string s1,.slice ba1 ln1 bc1,.slice ca1 mn1 cc1] 41)
  have hX:=heap_new w (.cells #[.string s1,.slice ba1 ln1 bc1,.slice ca1 mn1 cc1] 41)
  obtain ⟨gx1,hgx⟩:∃ g,g=w.heap.size:=⟨_,rfl⟩
  rw [← hgx] at hX⊢
  generalize w.alloc (.cells #[.string s1,.slice ba1 ln1 bc1,.slice ca1 mn1 cc1] 41)=wx at oX hX⊢
  have HO:=Hd oX
  have HX1:=Hd hX
  clear oX hX hgx
  go_wp2_with fail
  refine (alive10_any wx).mono ?_
  rintro e w0 ⟨rfl,o0⟩
  replace HO:=Hd (HO.out.trans o0 (by simp))
  (try replace HX1:=Hd (o0.heap HX1.out (by simp)))
  (try replace HX2:=Hd (o0.heap HX2.out (by simp)))
  (try replace HOK1:=Hd (fun d h=>(HOK1.out d h).kept o0 (by simp) (fun _ h=>h)))
  (try replace HOK2:=Hd (fun d h=>(HOK2.out d h).kept o0 (by simp) (fun _ h=>h)))
  (try replace HDV1:=Hd (HDV1.out.kept o0 (by simp) (fun _ h=>h)))
  (try replace HDV2:=Hd (HDV2.out.kept o0 (by simp) (fun _ h=>h)))
  (try replace HDV3:=Hd (HDV3.out.kept o0 (by simp) (fun _ h=>h)))
  (try replace HDV4:=Hd (HDV4.out.kept o0 (by simp) (fun _ h=>h)))
  (try replace HA1:=Hd (o0.heap HA1.out (by simp)))
  (try replace HA2:=Hd (o0.heap HA2.out (by simp)))
  (try replace HA3:=Hd (o0.heap HA3.out (by simp)))
  (try replace HA4:=Hd (o0.heap HA4.out (by simp)))
  (try replace HI1:=Hd (o0.heap HI1.out (by simp)))
  (try replace HI2:=Hd (o0.heap HI2.out (by simp)))
  (try replace HP1:=Hd (HP1.out.kept o0 (by simp)))
  (try replace HP2:=Hd (HP2.out.kept o0 (by simp)))
  (try replace HP3:=Hd (HP3.out.kept o0 (by simp)))
  (try replace HP4:=Hd (HP4.out.kept o0 (by simp)))
  (try replace HP5:=Hd (HP5.out.kept o0 (by simp)))
  clear o0
  have x0:w0.cell? ⟨gx1,0,none⟩=some (.string s1):=cell_at 0 HX1.out
  obtain ⟨R1,hR⟩:∃ R,R=parseS s1.data.toList:=⟨_,rfl⟩
  have K1:=parsed_any s1 w0 hs1'
  rw [← hR] at K1
  have HR1:=Hd hR
  clear hR
  go_wp2_with fail
  refine K1.mono ?_
  rintro e w0a ⟨sn1,a11,a21,a31,a41,l11,l21,l31,l41,c11,c21,c31,c41,rfl,hok,o1⟩
  replace HO:=Hd (HO.out.trans o1 (by simp))
  (try replace HX1:=Hd (o1.heap HX1.out (by simp)))
  (try replace HX2:=Hd (o1.heap HX2.out (by simp)))
  (try replace HOK1:=Hd (fun d h=>(HOK1.out d h).kept o1 (by simp) (fun _ h=>h)))
  (try replace HOK2:=Hd (fun d h=>(HOK2.out d h).kept o1 (by simp) (fun _ h=>h)))
  (try replace HDV1:=Hd (HDV1.out.kept o1 (by simp) (fun _ h=>h)))
  (try replace HDV2:=Hd (HDV2.out.kept o1 (by simp) (fun _ h=>h)))
  (try replace HDV3:=Hd (HDV3.out.kept o1 (by simp) (fun _ h=>h)))
  (try replace HDV4:=Hd (HDV4.out.kept o1 (by simp) (fun _ h=>h)))
  (try replace HA1:=Hd (o1.heap HA1.out (by simp)))
  (try replace HA2:=Hd (o1.heap HA2.out (by simp)))
  (try replace HA3:=Hd (o1.heap HA3.out (by simp)))
  (try replace HA4:=Hd (o1.heap HA4.out (by simp)))
  (try replace HI1:=Hd (o1.heap HI1.out (by simp)))
  (try replace HI2:=Hd (o1.heap HI2.out (by simp)))
  (try replace HP1:=Hd (HP1.out.kept o1 (by simp)))
  (try replace HP2:=Hd (HP2.out.kept o1 (by simp)))
  (try replace HP3:=Hd (HP3.out.kept o1 (by simp)))
  (try replace HP4:=Hd (HP4.out.kept o1 (by simp)))
  (try replace HP5:=Hd (HP5.out.kept o1 (by simp)))
  have HOK1:=Hd (fun d h=>(hok d h).lt)
  have HXL:=Hd (lt_of_heap HX1.out)
  have HWL:=Hd HO.out.size
  clear K1 o1 x0 hok
  go_upto_region 4 with (fail)
  have oA:=(Only.refl [] w0a).alloc (.cells #[.string sn1,.slice a11 l11 c11,.slice a21 l21 c21,.slice a31 l31 c31,.slice a41 l41 c41] 27)
  have hA:=heap_new w0a (.cells #[.string sn1,.slice a11 l11 c11,.slice a21 l21 c21,.slice a31 l31 c31,.slice a41 l41 c41] 27)
  obtain ⟨gd1,hgd⟩:∃ g,g=w0a.heap.size:=⟨_,rfl⟩
  rw [← hgd] at hA⊢
  generalize w0a.alloc (.cells #[.string sn1,.slice a11 l11 c11,.slice a21 l21 c21,.slice a31 l31 c31,.slice a41 l41 c41] 27)=w1 at oA hA⊢
  replace HO:=Hd (HO.out.trans oA (by simp))
  (try replace HX1:=Hd (oA.heap HX1.out (by simp)))
  (try replace HX2:=Hd (oA.heap HX2.out (by simp)))
  (try replace HOK1:=Hd (fun d h=>(HOK1.out d h).kept oA (by simp) (fun _ h=>h)))
  (try replace HOK2:=Hd (fun d h=>(HOK2.out d h).kept oA (by simp) (fun _ h=>h)))
  (try replace HDV1:=Hd (HDV1.out.kept oA (by simp) (fun _ h=>h)))
  (try replace HDV2:=Hd (HDV2.out.kept oA (by simp) (fun _ h=>h)))
  (try replace HDV3:=Hd (HDV3.out.kept oA (by simp) (fun _ h=>h)))
  (try replace HDV4:=Hd (HDV4.out.kept oA (by simp) (fun _ h=>h)))
  (try replace HA1:=Hd (oA.heap HA1.out (by simp)))
  (try replace HA2:=Hd (oA.heap HA2.out (by simp)))
  (try replace HA3:=Hd (oA.heap HA3.out (by simp)))
  (try replace HA4:=Hd (oA.heap HA4.out (by simp)))
  (try replace HI1:=Hd (oA.heap HI1.out (by simp)))
  (try replace HI2:=Hd (oA.heap HI2.out (by simp)))
  (try replace HP1:=Hd (HP1.out.kept oA (by simp)))
  (try replace HP2:=Hd (HP2.out.kept oA (by simp)))
  (try replace HP3:=Hd (HP3.out.kept oA (by simp)))
  (try replace HP4:=Hd (HP4.out.kept oA (by simp)))
  (try replace HP5:=Hd (HP5.out.kept oA (by simp)))
  have HA1:=Hd hA
  have HGD0:=Hd hgd
  clear oA hA hgd
  cases R1 with
  | error q=>
    rw [show isOk (Except.error q:Except (Nat×Nat) Df)=false from rfl]
    go_wp2_with fail
    go_ret
    exact ⟨rfl,HO.out⟩
  | ok d0=>
    rw [show isOk (Except.ok d0:Except (Nat×Nat) Df)=true from rfl]
    have HDV0:=Hd (HOK1.out d0 rfl)
    have HWH0:=Hd (parse_whole HR1.out.symm)
    have HPL0:=Hd (parse_plain HR1.out.symm)
    have HGDD:=Hd (parse_good HR1.out.symm)
    clear HOK1 HR1
    have y2:w1.cell? ⟨gd1,2,none⟩=some (.slice a21 l21 c21):=cell_at 2 HA1.out
    have y4:w1.cell? ⟨gd1,4,none⟩=some (.slice a41 l41 c41):=cell_at 4 HA1.out
    have f2:=free_at 2 HA1.out
    have f4:=free_at 4 HA1.out
    go_upto_region 7 with (fail)
    have oz:Only [gd1] w1 ((w1.setCell ⟨gd1,2,none⟩ (.slice none 0 0)).setCell ⟨gd1,4,none⟩ (.slice none 0 0)):=((Only.refl _ _).setCell (.inl (by simp)) _).setCell (.inl (by simp)) _
    have hb:((w1.setCell ⟨gd1,2,none⟩ (.slice none 0 0)).setCell ⟨gd1,4,none⟩ (.slice none 0 0)).heap[gd1]?=some (.cells #[.string sn1,.slice a11 l11 c11,.slice none 0 0,.slice a31 l31 c31,.slice none 0 0] 27 (0,0)):=heap_cell (i:=4) _ (heap_cell (i:=2) _ HA1.out)
    generalize (w1.setCell ⟨gd1,2,none⟩ (.slice none 0 0)).setCell ⟨gd1,4,none⟩ (.slice none 0 0)=w2 at oz hb⊢
    replace HA1:=Hd hb
    have hxl:=HXL.out
    have hwl:=HWL.out
    have hgd:=HGD0.out
    replace HO:=Hd (HO.out.trans oz (fun k hk=>.inr (by rw [List.mem_singleton.1 hk];omega)))
    replace HX1:=Hd (oz.heap HX1.out (by simp;omega))
    have HDV1:=Hd (bare_dv (HDV0.out.kept (B':=fun b=>w0.heap.size≤b∧b < w0a.heap.size) oz (fun k hk hB=>by rw [List.mem_singleton.1 hk] at hB;omega) (fun _ h=>h)))
    have HWH1:=Hd (bare_whole HWH0.out)
    have HPL1:=Hd (show pB (bareD d0).body from HPL0.out)
    have HGD1:=Hd (bare_good HGDD.out)
    have HN1:=Hd (And.intro (show (bareD d0).needs=[] from rfl) (show (bareD d0).give=[] from rfl))
    clear oz hb hxl hwl hgd y2 y4 f2 f4 HDV0 HWH0 HPL0 HGDD HXL HWL HGD0
    generalize bareD d0=d1 at HDV1 HWH1 HPL1 HGD1 HN1
    have y0:w2.cell? ⟨gd1,0,none⟩=some (.string sn1):=cell_at 0 HA1.out
    have y1:w2.cell? ⟨gd1,1,none⟩=some (.slice a11 l11 c11):=cell_at 1 HA1.out
    have y2:w2.cell? ⟨gd1,2,none⟩=some (.slice none 0 0):=cell_at 2 HA1.out
    have y3:w2.cell? ⟨gd1,3,none⟩=some (.slice a31 l31 c31):=cell_at 3 HA1.out
    have y4:w2.cell? ⟨gd1,4,none⟩=some (.slice none 0 0):=cell_at 4 HA1.out
    have KT:=iturn_any HDV1.out HWH1.out HPL1.out
    go_wp2_with fail
    refine KT.mono ?_
    rintro e w2a ⟨sn2,a12,a22,a32,a42,l12,l22,l32,l42,c12,c22,c32,c42,rfl,hdv,o1⟩
    replace HO:=Hd (HO.out.trans o1 (by simp))
    (try replace HX1:=Hd (o1.heap HX1.out (by simp)))
    (try replace HX2:=Hd (o1.heap HX2.out (by simp)))
    (try replace HOK1:=Hd (fun d h=>(HOK1.out d h).kept o1 (by simp) (fun _ h=>h)))
    (try replace HOK2:=Hd (fun d h=>(HOK2.out d h).kept o1 (by simp) (fun _ h=>h)))
    (try replace HDV1:=Hd (HDV1.out.kept o1 (by simp) (fun _ h=>h)))
    (try replace HDV2:=Hd (HDV2.out.kept o1 (by simp) (fun _ h=>h)))
    (try replace HDV3:=Hd (HDV3.out.kept o1 (by simp) (fun _ h=>h)))
    (try replace HDV4:=Hd (HDV4.out.kept o1 (by simp) (fun _ h=>h)))
    (try replace HA1:=Hd (o1.heap HA1.out (by simp)))
    (try replace HA2:=Hd (o1.heap HA2.out (by simp)))
    (try replace HA3:=Hd (o1.heap HA3.out (by simp)))
    (try replace HA4:=Hd (o1.heap HA4.out (by simp)))
    (try replace HI1:=Hd (o1.heap HI1.out (by simp)))
    (try replace HI2:=Hd (o1.heap HI2.out (by simp)))
    (try replace HP1:=Hd (HP1.out.kept o1 (by simp)))
    (try replace HP2:=Hd (HP2.out.kept o1 (by simp)))
    (try replace HP3:=Hd (HP3.out.kept o1 (by simp)))
    (try replace HP4:=Hd (HP4.out.kept o1 (by simp)))
    (try replace HP5:=Hd (HP5.out.kept o1 (by simp)))
    have HDV2:=Hd hdv
    obtain ⟨ev2,hev⟩:∃ v,v=(if okT d1=true then Value.nilIface else err 13):=⟨_,rfl⟩
    rw [← hev]
    have HEV2:=Hd hev
    clear KT hdv o1 y0 y1 y2 y3 y4 hev
    go_upto_region 8 with (fail)
    have oA:=(Only.refl [] w2a).alloc (.cells #[.string sn2,.slice a12 l12 c12,.slice a22 l22 c22,.slice a32 l32 c32,.slice a42 l42 c42] 27)
    have hA:=heap_new w2a (.cells #[.string sn2,.slice a12 l12 c12,.slice a22 l22 c22,.slice a32 l32 c32,.slice a42 l42 c42] 27)
    obtain ⟨gd2,hgd⟩:∃ g,g=w2a.heap.size:=⟨_,rfl⟩
    rw [← hgd] at hA⊢
    generalize w2a.alloc (.cells #[.string sn2,.slice a12 l12 c12,.slice a22 l22 c22,.slice a32 l32 c32,.slice a42 l42 c42] 27)=w3 at oA hA⊢
    replace HO:=Hd (HO.out.trans oA (by simp))
    (try replace HX1:=Hd (oA.heap HX1.out (by simp)))
    (try replace HX2:=Hd (oA.heap HX2.out (by simp)))
    (try replace HOK1:=Hd (fun d h=>(HOK1.out d h).kept oA (by simp) (fun _ h=>h)))
    (try replace HOK2:=Hd (fun d h=>(HOK2.out d h).kept oA (by simp) (fun _ h=>h)))
    (try replace HDV1:=Hd (HDV1.out.kept oA (by simp) (fun _ h=>h)))
    (try replace HDV2:=Hd (HDV2.out.kept oA (by simp) (fun _ h=>h)))
    (try replace HDV3:=Hd (HDV3.out.kept oA (by simp) (fun _ h=>h)))
    (try replace HDV4:=Hd (HDV4.out.kept oA (by simp) (fun _ h=>h)))
    (try replace HA1:=Hd (oA.heap HA1.out (by simp)))
    (try replace HA2:=Hd (oA.heap HA2.out (by simp)))
    (try replace HA3:=Hd (oA.heap HA3.out (by simp)))
    (try replace HA4:=Hd (oA.heap HA4.out (by simp)))
    (try replace HI1:=Hd (oA.heap HI1.out (by simp)))
    (try replace HI2:=Hd (oA.heap HI2.out (by simp)))
    (try replace HP1:=Hd (HP1.out.kept oA (by simp)))
    (try replace HP2:=Hd (HP2.out.kept oA (by simp)))
    (try replace HP3:=Hd (HP3.out.kept oA (by simp)))
    (try replace HP4:=Hd (HP4.out.kept oA (by simp)))
    (try replace HP5:=Hd (HP5.out.kept oA (by simp)))
    have HA2:=Hd hA
    clear oA hA hgd
    cases hT:okT d1 with
    | false=>
      obtain rfl:ev2=err 13:=by have h:=HEV2.out;rw [hT,if_neg (by decide)] at h;exact h
      clear hT HEV2
      have q1:=fun w=>neq_err 13 w
      go_wp2_with fail
      go_ret
      exact ⟨rfl,HO.out⟩
    | true=>
      have HTU1:=Hd ((okT_iff HWH1.out HPL1.out).1 hT)
      have HWH2:=Hd (turn_whole HWH1.out)
      have HPL2:=Hd (turn_plain HPL1.out)
      have HGD2:=Hd (turn_good HGD1.out)
      replace HDV2:=Hd (show DV _ _ (turnD d1) _ from by have h:=HDV2.out;rw [hT,if_pos rfl] at h;exact h)
      obtain rfl:ev2=.nilIface:=by have h:=HEV2.out;rw [hT,if_pos rfl] at h;exact h
      clear hT HEV2
      have q1:=neq_nil
      have HTU2:=Hd (turn_turns HWH1.out HTU1.out)
      have HIN:=Hd (turn_info HWH1.out HPL1.out HN1.out.1 HN1.out.2 HTU1.out)
      have HRA:=Hd (fun m=>run_again HWH1.out HTU1.out HN1.out.1 HN1.out.2 (n:=5) (av:=m) HCW.out)
      generalize turnD d1=d2 at HDV2 HWH2 HPL2 HGD2 HTU2 HIN HRA
      go_upto_region 10 with (fail)
      have K3:=check_any HDV1.out HWH1.out HPL1.out
      unfold ChRes at K3
      rw [chk_none HTU1.out.1] at K3
      obtain ⟨I,hI⟩:∃ I,I=opI CS.new d1:=⟨_,rfl⟩
      rw [← hI] at K3 HIN
      obtain ⟨im,ist,inn,itu⟩:=I
      unfold infoV at K3
      dsimp only at K3
      obtain ⟨st',hst⟩:∃ x:Int,x=ist:=⟨_,rfl⟩
      obtain ⟨nm',hnm⟩:∃ x:Int,x=inn:=⟨_,rfl⟩
      rw [← hst,← hnm] at K3
      have HST:=Hd (And.intro hst hnm)
      clear hI hst hnm
      have y0:w3.cell? ⟨gd1,0,none⟩=some (.string sn1):=cell_at 0 HA1.out
      have y1:w3.cell? ⟨gd1,1,none⟩=some (.slice a11 l11 c11):=cell_at 1 HA1.out
      have y2:w3.cell? ⟨gd1,2,none⟩=some (.slice none 0 0):=cell_at 2 HA1.out
      have y3:w3.cell? ⟨gd1,3,none⟩=some (.slice a31 l31 c31):=cell_at 3 HA1.out
      have y4:w3.cell? ⟨gd1,4,none⟩=some (.slice none 0 0):=cell_at 4 HA1.out
      go_wp2_with fail
      refine K3.mono ?_
      rintro e w3a ⟨ev,rfl,hfz,o3⟩
      rw [HTU1.out.1] at hfz
      have hev:ev=.nilIface:=hfz
      subst hev
      dsimp only
      replace HO:=Hd (HO.out.trans o3 (by simp))
      (try replace HX1:=Hd (o3.heap HX1.out (by simp)))
      (try replace HX2:=Hd (o3.heap HX2.out (by simp)))
      (try replace HOK1:=Hd (fun d h=>(HOK1.out d h).kept o3 (by simp) (fun _ h=>h)))
      (try replace HOK2:=Hd (fun d h=>(HOK2.out d h).kept o3 (by simp) (fun _ h=>h)))
      (try replace HDV1:=Hd (HDV1.out.kept o3 (by simp) (fun _ h=>h)))
      (try replace HDV2:=Hd (HDV2.out.kept o3 (by simp) (fun _ h=>h)))
      (try replace HDV3:=Hd (HDV3.out.kept o3 (by simp) (fun _ h=>h)))
      (try replace HDV4:=Hd (HDV4.out.kept o3 (by simp) (fun _ h=>h)))
      (try replace HA1:=Hd (o3.heap HA1.out (by simp)))
      (try replace HA2:=Hd (o3.heap HA2.out (by simp)))
      (try replace HA3:=Hd (o3.heap HA3.out (by simp)))
      (try replace HA4:=Hd (o3.heap HA4.out (by simp)))
      (try replace HI1:=Hd (o3.heap HI1.out (by simp)))
      (try replace HI2:=Hd (o3.heap HI2.out (by simp)))
      (try replace HP1:=Hd (HP1.out.kept o3 (by simp)))
      (try replace HP2:=Hd (HP2.out.kept o3 (by simp)))
      (try replace HP3:=Hd (HP3.out.kept o3 (by simp)))
      (try replace HP4:=Hd (HP4.out.kept o3 (by simp)))
      (try replace HP5:=Hd (HP5.out.kept o3 (by simp)))
      clear K3 o3 hfz y0 y1 y2 y3 y4
      go_upto_region 11 with (fail)
      have oA:=(Only.refl [] w3a).alloc (.cells #[.int .i64 im,.int .i64 st',.int .i64 nm',.bool itu] 51)
      have hA:=heap_new w3a (.cells #[.int .i64 im,.int .i64 st',.int .i64 nm',.bool itu] 51)
      obtain ⟨gi1,hgi⟩:∃ g,g=w3a.heap.size:=⟨_,rfl⟩
      rw [← hgi] at hA⊢
      generalize w3a.alloc (.cells #[.int .i64 im,.int .i64 st',.int .i64 nm',.bool itu] 51)=w4 at oA hA⊢
      replace HO:=Hd (HO.out.trans oA (by simp))
      (try replace HX1:=Hd (oA.heap HX1.out (by simp)))
      (try replace HX2:=Hd (oA.heap HX2.out (by simp)))
      (try replace HOK1:=Hd (fun d h=>(HOK1.out d h).kept oA (by simp) (fun _ h=>h)))
      (try replace HOK2:=Hd (fun d h=>(HOK2.out d h).kept oA (by simp) (fun _ h=>h)))
      (try replace HDV1:=Hd (HDV1.out.kept oA (by simp) (fun _ h=>h)))
      (try replace HDV2:=Hd (HDV2.out.kept oA (by simp) (fun _ h=>h)))
      (try replace HDV3:=Hd (HDV3.out.kept oA (by simp) (fun _ h=>h)))
      (try replace HDV4:=Hd (HDV4.out.kept oA (by simp) (fun _ h=>h)))
      (try replace HA1:=Hd (oA.heap HA1.out (by simp)))
      (try replace HA2:=Hd (oA.heap HA2.out (by simp)))
      (try replace HA3:=Hd (oA.heap HA3.out (by simp)))
      (try replace HA4:=Hd (oA.heap HA4.out (by simp)))
      (try replace HI1:=Hd (oA.heap HI1.out (by simp)))
      (try replace HI2:=Hd (oA.heap HI2.out (by simp)))
      (try replace HP1:=Hd (HP1.out.kept oA (by simp)))
      (try replace HP2:=Hd (HP2.out.kept oA (by simp)))
      (try replace HP3:=Hd (HP3.out.kept oA (by simp)))
      (try replace HP4:=Hd (HP4.out.kept oA (by simp)))
      (try replace HP5:=Hd (HP5.out.kept oA (by simp)))
      have HI1:=Hd hA
      clear oA hA hgi
      have K3:=check_any HDV2.out HWH2.out HPL2.out
      unfold ChRes at K3
      rw [chk_none HTU2.out.1,HIN.out] at K3
      unfold infoV at K3
      dsimp only at K3
      rw [← HST.out.1,← HST.out.2] at K3
      clear HIN HST
      have y0:w4.cell? ⟨gd2,0,none⟩=some (.string sn2):=cell_at 0 HA2.out
      have y1:w4.cell? ⟨gd2,1,none⟩=some (.slice a12 l12 c12):=cell_at 1 HA2.out
      have y2:w4.cell? ⟨gd2,2,none⟩=some (.slice a22 l22 c22):=cell_at 2 HA2.out
      have y3:w4.cell? ⟨gd2,3,none⟩=some (.slice a32 l32 c32):=cell_at 3 HA2.out
      have y4:w4.cell? ⟨gd2,4,none⟩=some (.slice a42 l42 c42):=cell_at 4 HA2.out
      go_wp2_with fail
      refine K3.mono ?_
      rintro e w4a ⟨ev,rfl,hfz,o3⟩
      rw [HTU2.out.1] at hfz
      have hev:ev=.nilIface:=hfz
      subst hev
      dsimp only
      replace HO:=Hd (HO.out.trans o3 (by simp))
      (try replace HX1:=Hd (o3.heap HX1.out (by simp)))
      (try replace HX2:=Hd (o3.heap HX2.out (by simp)))
      (try replace HOK1:=Hd (fun d h=>(HOK1.out d h).kept o3 (by simp) (fun _ h=>h)))
      (try replace HOK2:=Hd (fun d h=>(HOK2.out d h).kept o3 (by simp) (fun _ h=>h)))
      (try replace HDV1:=Hd (HDV1.out.kept o3 (by simp) (fun _ h=>h)))
      (try replace HDV2:=Hd (HDV2.out.kept o3 (by simp) (fun _ h=>h)))
      (try replace HDV3:=Hd (HDV3.out.kept o3 (by simp) (fun _ h=>h)))
      (try replace HDV4:=Hd (HDV4.out.kept o3 (by simp) (fun _ h=>h)))
      (try replace HA1:=Hd (o3.heap HA1.out (by simp)))
      (try replace HA2:=Hd (o3.heap HA2.out (by simp)))
      (try replace HA3:=Hd (o3.heap HA3.out (by simp)))
      (try replace HA4:=Hd (o3.heap HA4.out (by simp)))
      (try replace HI1:=Hd (o3.heap HI1.out (by simp)))
      (try replace HI2:=Hd (o3.heap HI2.out (by simp)))
      (try replace HP1:=Hd (HP1.out.kept o3 (by simp)))
      (try replace HP2:=Hd (HP2.out.kept o3 (by simp)))
      (try replace HP3:=Hd (HP3.out.kept o3 (by simp)))
      (try replace HP4:=Hd (HP4.out.kept o3 (by simp)))
      (try replace HP5:=Hd (HP5.out.kept o3 (by simp)))
      clear K3 o3 hfz y0 y1 y2 y3 y4
      go_upto_region 12 with (fail)
      have oA:=(Only.refl [] w4a).alloc (.cells #[.int .i64 im,.int .i64 st',.int .i64 nm',.bool itu] 51)
      have hA:=heap_new w4a (.cells #[.int .i64 im,.int .i64 st',.int .i64 nm',.bool itu] 51)
      obtain ⟨gi2,hgi⟩:∃ g,g=w4a.heap.size:=⟨_,rfl⟩
      rw [← hgi] at hA⊢
      generalize w4a.alloc (.cells #[.int .i64 im,.int .i64 st',.int .i64 nm',.bool itu] 51)=w5 at oA hA⊢
      replace HO:=Hd (HO.out.trans oA (by simp))
      (try replace HX1:=Hd (oA.heap HX1.out (by simp)))
      (try replace HX2:=Hd (oA.heap HX2.out (by simp)))
      (try replace HOK1:=Hd (fun d h=>(HOK1.out d h).kept oA (by simp) (fun _ h=>h)))
      (try replace HOK2:=Hd (fun d h=>(HOK2.out d h).kept oA (by simp) (fun _ h=>h)))
      (try replace HDV1:=Hd (HDV1.out.kept oA (by simp) (fun _ h=>h)))
      (try replace HDV2:=Hd (HDV2.out.kept oA (by simp) (fun _ h=>h)))
      (try replace HDV3:=Hd (HDV3.out.kept oA (by simp) (fun _ h=>h)))
      (try replace HDV4:=Hd (HDV4.out.kept oA (by simp) (fun _ h=>h)))
      (try replace HA1:=Hd (oA.heap HA1.out (by simp)))
      (try replace HA2:=Hd (oA.heap HA2.out (by simp)))
      (try replace HA3:=Hd (oA.heap HA3.out (by simp)))
      (try replace HA4:=Hd (oA.heap HA4.out (by simp)))
      (try replace HI1:=Hd (oA.heap HI1.out (by simp)))
      (try replace HI2:=Hd (oA.heap HI2.out (by simp)))
      (try replace HP1:=Hd (HP1.out.kept oA (by simp)))
      (try replace HP2:=Hd (HP2.out.kept oA (by simp)))
      (try replace HP3:=Hd (HP3.out.kept oA (by simp)))
      (try replace HP4:=Hd (HP4.out.kept oA (by simp)))
      (try replace HP5:=Hd (HP5.out.kept oA (by simp)))
      have HI2:=Hd hA
      clear oA hA hgi
      have hT:=(okT_iff HWH2.out HPL2.out).2 HTU2.out
      clear HTU2
      have y0:w5.cell? ⟨gd2,0,none⟩=some (.string sn2):=cell_at 0 HA2.out
      have y1:w5.cell? ⟨gd2,1,none⟩=some (.slice a12 l12 c12):=cell_at 1 HA2.out
      have y2:w5.cell? ⟨gd2,2,none⟩=some (.slice a22 l22 c22):=cell_at 2 HA2.out
      have y3:w5.cell? ⟨gd2,3,none⟩=some (.slice a32 l32 c32):=cell_at 3 HA2.out
      have y4:w5.cell? ⟨gd2,4,none⟩=some (.slice a42 l42 c42):=cell_at 4 HA2.out
      have KT:=iturn_any HDV2.out HWH2.out HPL2.out
      go_wp2_with fail
      refine KT.mono ?_
      rintro e w5a ⟨sn3,a13,a23,a33,a43,l13,l23,l33,l43,c13,c23,c33,c43,rfl,hdv,o1⟩
      replace HO:=Hd (HO.out.trans o1 (by simp))
      (try replace HX1:=Hd (o1.heap HX1.out (by simp)))
      (try replace HX2:=Hd (o1.heap HX2.out (by simp)))
      (try replace HOK1:=Hd (fun d h=>(HOK1.out d h).kept o1 (by simp) (fun _ h=>h)))
      (try replace HOK2:=Hd (fun d h=>(HOK2.out d h).kept o1 (by simp) (fun _ h=>h)))
      (try replace HDV1:=Hd (HDV1.out.kept o1 (by simp) (fun _ h=>h)))
      (try replace HDV2:=Hd (HDV2.out.kept o1 (by simp) (fun _ h=>h)))
      (try replace HDV3:=Hd (HDV3.out.kept o1 (by simp) (fun _ h=>h)))
      (try replace HDV4:=Hd (HDV4.out.kept o1 (by simp) (fun _ h=>h)))
      (try replace HA1:=Hd (o1.heap HA1.out (by simp)))
      (try replace HA2:=Hd (o1.heap HA2.out (by simp)))
      (try replace HA3:=Hd (o1.heap HA3.out (by simp)))
      (try replace HA4:=Hd (o1.heap HA4.out (by simp)))
      (try replace HI1:=Hd (o1.heap HI1.out (by simp)))
      (try replace HI2:=Hd (o1.heap HI2.out (by simp)))
      (try replace HP1:=Hd (HP1.out.kept o1 (by simp)))
      (try replace HP2:=Hd (HP2.out.kept o1 (by simp)))
      (try replace HP3:=Hd (HP3.out.kept o1 (by simp)))
      (try replace HP4:=Hd (HP4.out.kept o1 (by simp)))
      (try replace HP5:=Hd (HP5.out.kept o1 (by simp)))
      have HDV3:=Hd hdv
      obtain ⟨ev3,hev⟩:∃ v,v=(if okT d2=true then Value.nilIface else err 13):=⟨_,rfl⟩
      rw [← hev]
      have HEV3:=Hd hev
      clear KT hdv o1 y0 y1 y2 y3 y4 hev
      go_upto_region 13 with (fail)
      have oA:=(Only.refl [] w5a).alloc (.cells #[.string sn3,.slice a13 l13 c13,.slice a23 l23 c23,.slice a33 l33 c33,.slice a43 l43 c43] 27)
      have hA:=heap_new w5a (.cells #[.string sn3,.slice a13 l13 c13,.slice a23 l23 c23,.slice a33 l33 c33,.slice a43 l43 c43] 27)
      obtain ⟨gd3,hgd⟩:∃ g,g=w5a.heap.size:=⟨_,rfl⟩
      rw [← hgd] at hA⊢
      generalize w5a.alloc (.cells #[.string sn3,.slice a13 l13 c13,.slice a23 l23 c23,.slice a33 l33 c33,.slice a43 l43 c43] 27)=w6 at oA hA⊢
      replace HO:=Hd (HO.out.trans oA (by simp))
      (try replace HX1:=Hd (oA.heap HX1.out (by simp)))
      (try replace HX2:=Hd (oA.heap HX2.out (by simp)))
      (try replace HOK1:=Hd (fun d h=>(HOK1.out d h).kept oA (by simp) (fun _ h=>h)))
      (try replace HOK2:=Hd (fun d h=>(HOK2.out d h).kept oA (by simp) (fun _ h=>h)))
      (try replace HDV1:=Hd (HDV1.out.kept oA (by simp) (fun _ h=>h)))
      (try replace HDV2:=Hd (HDV2.out.kept oA (by simp) (fun _ h=>h)))
      (try replace HDV3:=Hd (HDV3.out.kept oA (by simp) (fun _ h=>h)))
      (try replace HDV4:=Hd (HDV4.out.kept oA (by simp) (fun _ h=>h)))
      (try replace HA1:=Hd (oA.heap HA1.out (by simp)))
      (try replace HA2:=Hd (oA.heap HA2.out (by simp)))
      (try replace HA3:=Hd (oA.heap HA3.out (by simp)))
      (try replace HA4:=Hd (oA.heap HA4.out (by simp)))
      (try replace HI1:=Hd (oA.heap HI1.out (by simp)))
      (try replace HI2:=Hd (oA.heap HI2.out (by simp)))
      (try replace HP1:=Hd (HP1.out.kept oA (by simp)))
      (try replace HP2:=Hd (HP2.out.kept oA (by simp)))
      (try replace HP3:=Hd (HP3.out.kept oA (by simp)))
      (try replace HP4:=Hd (HP4.out.kept oA (by simp)))
      (try replace HP5:=Hd (HP5.out.kept oA (by simp)))
      have HA3:=Hd hA
      clear oA hA hgd
      have HTU2:=Hd ((okT_iff HWH2.out HPL2.out).1 hT)
      have HWH3:=Hd (turn_whole HWH2.out)
      have HPL3:=Hd (turn_plain HPL2.out)
      have HGD3:=Hd (turn_good HGD2.out)
      replace HDV3:=Hd (show DV _ _ (turnD d2) _ from by have h:=HDV3.out;rw [hT,if_pos rfl] at h;exact h)
      obtain rfl:ev3=.nilIface:=by have h:=HEV3.out;rw [hT,if_pos rfl] at h;exact h
      clear hT HEV3
      have i0:w6.cell? ⟨gi1,0,none⟩=some (.int .i64 im):=cell_at 0 HI1.out
      have i1:w6.cell? ⟨gi1,1,none⟩=some (.int .i64 st'):=cell_at 1 HI1.out
      have i2:w6.cell? ⟨gi1,2,none⟩=some (.int .i64 nm'):=cell_at 2 HI1.out
      have i3:w6.cell? ⟨gi1,3,none⟩=some (.bool itu):=cell_at 3 HI1.out
      have j0:w6.cell? ⟨gi2,0,none⟩=some (.int .i64 im):=cell_at 0 HI2.out
      have j1:w6.cell? ⟨gi2,1,none⟩=some (.int .i64 st'):=cell_at 1 HI2.out
      have j2:w6.cell? ⟨gi2,2,none⟩=some (.int .i64 nm'):=cell_at 2 HI2.out
      have j3:w6.cell? ⟨gi2,3,none⟩=some (.bool itu):=cell_at 3 HI2.out
      have q2:=info_neq im st' nm' itu
      go_upto_region 15 with (fail)
      clear i0 i1 i2 i3 j0 j1 j2 j3 q2 HI1 HI2 HDV2 HA2
      have xb:w6.cell? ⟨gx1,1,none⟩=some (.slice ba1 ln1 bc1):=cell_at 1 HX1.out
      go_wp2_with fail
      refine (filled9_any _ l1 w6 (HB.out.kept HO.out (by intro a n c e h;simp)) HL.out).mono ?_
      rintro e w6a ⟨rfl,o9⟩
      rw [← HCD.out]
      replace HO:=Hd (HO.out.trans o9 (by simp))
      (try replace HX1:=Hd (o9.heap HX1.out (by simp)))
      (try replace HX2:=Hd (o9.heap HX2.out (by simp)))
      (try replace HOK1:=Hd (fun d h=>(HOK1.out d h).kept o9 (by simp) (fun _ h=>h)))
      (try replace HOK2:=Hd (fun d h=>(HOK2.out d h).kept o9 (by simp) (fun _ h=>h)))
      (try replace HDV1:=Hd (HDV1.out.kept o9 (by simp) (fun _ h=>h)))
      (try replace HDV2:=Hd (HDV2.out.kept o9 (by simp) (fun _ h=>h)))
      (try replace HDV3:=Hd (HDV3.out.kept o9 (by simp) (fun _ h=>h)))
      (try replace HDV4:=Hd (HDV4.out.kept o9 (by simp) (fun _ h=>h)))
      (try replace HA1:=Hd (o9.heap HA1.out (by simp)))
      (try replace HA2:=Hd (o9.heap HA2.out (by simp)))
      (try replace HA3:=Hd (o9.heap HA3.out (by simp)))
      (try replace HA4:=Hd (o9.heap HA4.out (by simp)))
      (try replace HI1:=Hd (o9.heap HI1.out (by simp)))
      (try replace HI2:=Hd (o9.heap HI2.out (by simp)))
      (try replace HP1:=Hd (HP1.out.kept o9 (by simp)))
      (try replace HP2:=Hd (HP2.out.kept o9 (by simp)))
      (try replace HP3:=Hd (HP3.out.kept o9 (by simp)))
      (try replace HP4:=Hd (HP4.out.kept o9 (by simp)))
      (try replace HP5:=Hd (HP5.out.kept o9 (by simp)))
      clear o9 xb HB HL HCD
      go_upto_region 16 with (first
        | (clear T1
           refine wpList_new_page rfl rfl ?_
           intro wn gp1 hbp hgp hop
           have HNP:=Hd hbp
           have HOP:=Hd hop
           have HGP:=Hd hgp
           clear hbp hgp hop)
        | (refine wpList_store_page rfl _ _ rfl gp1 (5 :: c) (by rfl) (by rfl) H61.out _ HNP.out (by rfl) ?_
           intro w7 hb7 ho7))
      have oPP:Only [] w6a w7:=HOP.out.trans ho7 (fun k hk=>.inr (by rw [List.mem_singleton.1 hk];exact HGP.out))
      replace HO:=Hd (HO.out.trans oPP (by simp))
      (try replace HX1:=Hd (oPP.heap HX1.out (by simp)))
      (try replace HX2:=Hd (oPP.heap HX2.out (by simp)))
      (try replace HOK1:=Hd (fun d h=>(HOK1.out d h).kept oPP (by simp) (fun _ h=>h)))
      (try replace HOK2:=Hd (fun d h=>(HOK2.out d h).kept oPP (by simp) (fun _ h=>h)))
      (try replace HDV1:=Hd (HDV1.out.kept oPP (by simp) (fun _ h=>h)))
      (try replace HDV2:=Hd (HDV2.out.kept oPP (by simp) (fun _ h=>h)))
      (try replace HDV3:=Hd (HDV3.out.kept oPP (by simp) (fun _ h=>h)))
      (try replace HDV4:=Hd (HDV4.out.kept oPP (by simp) (fun _ h=>h)))
      (try replace HA1:=Hd (oPP.heap HA1.out (by simp)))
      (try replace HA2:=Hd (oPP.heap HA2.out (by simp)))
      (try replace HA3:=Hd (oPP.heap HA3.out (by simp)))
      (try replace HA4:=Hd (oPP.heap HA4.out (by simp)))
      (try replace HI1:=Hd (oPP.heap HI1.out (by simp)))
      (try replace HI2:=Hd (oPP.heap HI2.out (by simp)))
      (try replace HP1:=Hd (HP1.out.kept oPP (by simp)))
      (try replace HP2:=Hd (HP2.out.kept oPP (by simp)))
      (try replace HP3:=Hd (HP3.out.kept oPP (by simp)))
      (try replace HP4:=Hd (HP4.out.kept oPP (by simp)))
      (try replace HP5:=Hd (HP5.out.kept oPP (by simp)))
      have HP1:=Hd hb7
      clear HNP HOP HGP hb7 ho7 oPP
      have y0:w7.cell? ⟨gd1,0,none⟩=some (.string sn1):=cell_at 0 HA1.out
      have y1:w7.cell? ⟨gd1,1,none⟩=some (.slice a11 l11 c11):=cell_at 1 HA1.out
      have y2:w7.cell? ⟨gd1,2,none⟩=some (.slice none 0 0):=cell_at 2 HA1.out
      have y3:w7.cell? ⟨gd1,3,none⟩=some (.slice a31 l31 c31):=cell_at 3 HA1.out
      have y4:w7.cell? ⟨gd1,4,none⟩=some (.slice none 0 0):=cell_at 4 HA1.out
      have xx:w7.cell? ⟨gx1,2,none⟩=some (.slice ca1 mn1 cc1):=cell_at 2 HX1.out
      have KR:=run_any HDV1.out HWH1.out HPL1.out HGD1.out HCW.out (n:=5) (HC1.out.kept HO.out (by intro a n c e h;simp)) HM1.out
      obtain ⟨r,hr⟩:∃ r,r=runP d1 5 c m1:=⟨_,rfl⟩
      have HRA2:=Hd ((HRA.out m1).trans hr.symm)
      rw [← hr] at KR
      rcases run_turns (d:=d1) (n:=5) (c:=c) (av:=m1) with ⟨k,hk,h⟩ | ⟨rg,h⟩
      · obtain rfl:=hr.trans h
        clear h hr
        go_wp2_with (refine wpList_load_page rfl _ rfl gp1 (by rfl) (5 :: c) HP1.out H61.out ?_)
        refine KR.mono ?_
        rintro e w7a ⟨rfl,oR⟩
        dsimp only
        replace HO:=Hd (HO.out.trans oR (by simp))
        (try replace HX1:=Hd (oR.heap HX1.out (by simp)))
        (try replace HX2:=Hd (oR.heap HX2.out (by simp)))
        (try replace HOK1:=Hd (fun d h=>(HOK1.out d h).kept oR (by simp) (fun _ h=>h)))
        (try replace HOK2:=Hd (fun d h=>(HOK2.out d h).kept oR (by simp) (fun _ h=>h)))
        (try replace HDV1:=Hd (HDV1.out.kept oR (by simp) (fun _ h=>h)))
        (try replace HDV2:=Hd (HDV2.out.kept oR (by simp) (fun _ h=>h)))
        (try replace HDV3:=Hd (HDV3.out.kept oR (by simp) (fun _ h=>h)))
        (try replace HDV4:=Hd (HDV4.out.kept oR (by simp) (fun _ h=>h)))
        (try replace HA1:=Hd (oR.heap HA1.out (by simp)))
        (try replace HA2:=Hd (oR.heap HA2.out (by simp)))
        (try replace HA3:=Hd (oR.heap HA3.out (by simp)))
        (try replace HA4:=Hd (oR.heap HA4.out (by simp)))
        (try replace HI1:=Hd (oR.heap HI1.out (by simp)))
        (try replace HI2:=Hd (oR.heap HI2.out (by simp)))
        (try replace HP1:=Hd (HP1.out.kept oR (by simp)))
        (try replace HP2:=Hd (HP2.out.kept oR (by simp)))
        (try replace HP3:=Hd (HP3.out.kept oR (by simp)))
        (try replace HP4:=Hd (HP4.out.kept oR (by simp)))
        (try replace HP5:=Hd (HP5.out.kept oR (by simp)))
        clear KR oR y0 y1 y2 y3 y4 xx
        go_upto_region 17 with (first
          | (clear T2
             refine wpList_new_page rfl rfl ?_
             intro wn gp2 hbp hgp hop
             have HNP:=Hd hbp
             have HOP:=Hd hop
             have HGP:=Hd hgp
             clear hbp hgp hop)
          | (refine wpList_store_page rfl _ _ rfl gp2 (0 :: blankP) (by rfl) (by rfl) (by rfl) _ HNP.out (by rfl) ?_
             intro w8 hb7 ho7))
        have oPP:Only [] w7a w8:=HOP.out.trans ho7 (fun k hk=>.inr (by rw [List.mem_singleton.1 hk];exact HGP.out))
        replace HO:=Hd (HO.out.trans oPP (by simp))
        (try replace HX1:=Hd (oPP.heap HX1.out (by simp)))
        (try replace HX2:=Hd (oPP.heap HX2.out (by simp)))
        (try replace HOK1:=Hd (fun d h=>(HOK1.out d h).kept oPP (by simp) (fun _ h=>h)))
        (try replace HOK2:=Hd (fun d h=>(HOK2.out d h).kept oPP (by simp) (fun _ h=>h)))
        (try replace HDV1:=Hd (HDV1.out.kept oPP (by simp) (fun _ h=>h)))
        (try replace HDV2:=Hd (HDV2.out.kept oPP (by simp) (fun _ h=>h)))
        (try replace HDV3:=Hd (HDV3.out.kept oPP (by simp) (fun _ h=>h)))
        (try replace HDV4:=Hd (HDV4.out.kept oPP (by simp) (fun _ h=>h)))
        (try replace HA1:=Hd (oPP.heap HA1.out (by simp)))
        (try replace HA2:=Hd (oPP.heap HA2.out (by simp)))
        (try replace HA3:=Hd (oPP.heap HA3.out (by simp)))
        (try replace HA4:=Hd (oPP.heap HA4.out (by simp)))
        (try replace HI1:=Hd (oPP.heap HI1.out (by simp)))
        (try replace HI2:=Hd (oPP.heap HI2.out (by simp)))
        (try replace HP1:=Hd (HP1.out.kept oPP (by simp)))
        (try replace HP2:=Hd (HP2.out.kept oPP (by simp)))
        (try replace HP3:=Hd (HP3.out.kept oPP (by simp)))
        (try replace HP4:=Hd (HP4.out.kept oPP (by simp)))
        (try replace HP5:=Hd (HP5.out.kept oPP (by simp)))
        have HP2:=Hd hb7
        clear HNP HOP HGP hb7 ho7 oPP
        have y0:w8.cell? ⟨gd3,0,none⟩=some (.string sn3):=cell_at 0 HA3.out
        have y1:w8.cell? ⟨gd3,1,none⟩=some (.slice a13 l13 c13):=cell_at 1 HA3.out
        have y2:w8.cell? ⟨gd3,2,none⟩=some (.slice a23 l23 c23):=cell_at 2 HA3.out
        have y3:w8.cell? ⟨gd3,3,none⟩=some (.slice a33 l33 c33):=cell_at 3 HA3.out
        have y4:w8.cell? ⟨gd3,4,none⟩=some (.slice a43 l43 c43):=cell_at 4 HA3.out
        have xx:w8.cell? ⟨gx1,2,none⟩=some (.slice ca1 mn1 cc1):=cell_at 2 HX1.out
        have KR:=run_any HDV3.out HWH3.out HPL3.out HGD3.out HCW.out (n:=5) (HC1.out.kept HO.out (by intro a n c e h;simp)) HM1.out
        rw [HRA2.out] at KR
        go_wp2_with (refine wpList_load_page rfl _ rfl gp1 (by rfl) (5 :: c) HP1.out H61.out ?_)
        refine KR.mono ?_
        rintro e w8a ⟨rfl,oR⟩
        dsimp only
        replace HO:=Hd (HO.out.trans oR (by simp))
        (try replace HX1:=Hd (oR.heap HX1.out (by simp)))
        (try replace HX2:=Hd (oR.heap HX2.out (by simp)))
        (try replace HOK1:=Hd (fun d h=>(HOK1.out d h).kept oR (by simp) (fun _ h=>h)))
        (try replace HOK2:=Hd (fun d h=>(HOK2.out d h).kept oR (by simp) (fun _ h=>h)))
        (try replace HDV1:=Hd (HDV1.out.kept oR (by simp) (fun _ h=>h)))
        (try replace HDV2:=Hd (HDV2.out.kept oR (by simp) (fun _ h=>h)))
        (try replace HDV3:=Hd (HDV3.out.kept oR (by simp) (fun _ h=>h)))
        (try replace HDV4:=Hd (HDV4.out.kept oR (by simp) (fun _ h=>h)))
        (try replace HA1:=Hd (oR.heap HA1.out (by simp)))
        (try replace HA2:=Hd (oR.heap HA2.out (by simp)))
        (try replace HA3:=Hd (oR.heap HA3.out (by simp)))
        (try replace HA4:=Hd (oR.heap HA4.out (by simp)))
        (try replace HI1:=Hd (oR.heap HI1.out (by simp)))
        (try replace HI2:=Hd (oR.heap HI2.out (by simp)))
        (try replace HP1:=Hd (HP1.out.kept oR (by simp)))
        (try replace HP2:=Hd (HP2.out.kept oR (by simp)))
        (try replace HP3:=Hd (HP3.out.kept oR (by simp)))
        (try replace HP4:=Hd (HP4.out.kept oR (by simp)))
        (try replace HP5:=Hd (HP5.out.kept oR (by simp)))
        clear KR oR y0 y1 y2 y3 y4 xx
        go_upto_region 18 with (first
          | (clear T3
             refine wpList_new_page rfl rfl ?_
             intro wn gp3 hbp hgp hop
             have HNP:=Hd hbp
             have HOP:=Hd hop
             have HGP:=Hd hgp
             clear hbp hgp hop)
          | (refine wpList_store_page rfl _ _ rfl gp3 (0 :: blankP) (by rfl) (by rfl) (by rfl) _ HNP.out (by rfl) ?_
             intro w9 hb7 ho7))
        have oPP:Only [] w8a w9:=HOP.out.trans ho7 (fun k hk=>.inr (by rw [List.mem_singleton.1 hk];exact HGP.out))
        replace HO:=Hd (HO.out.trans oPP (by simp))
        (try replace HX1:=Hd (oPP.heap HX1.out (by simp)))
        (try replace HX2:=Hd (oPP.heap HX2.out (by simp)))
        (try replace HOK1:=Hd (fun d h=>(HOK1.out d h).kept oPP (by simp) (fun _ h=>h)))
        (try replace HOK2:=Hd (fun d h=>(HOK2.out d h).kept oPP (by simp) (fun _ h=>h)))
        (try replace HDV1:=Hd (HDV1.out.kept oPP (by simp) (fun _ h=>h)))
        (try replace HDV2:=Hd (HDV2.out.kept oPP (by simp) (fun _ h=>h)))
        (try replace HDV3:=Hd (HDV3.out.kept oPP (by simp) (fun _ h=>h)))
        (try replace HDV4:=Hd (HDV4.out.kept oPP (by simp) (fun _ h=>h)))
        (try replace HA1:=Hd (oPP.heap HA1.out (by simp)))
        (try replace HA2:=Hd (oPP.heap HA2.out (by simp)))
        (try replace HA3:=Hd (oPP.heap HA3.out (by simp)))
        (try replace HA4:=Hd (oPP.heap HA4.out (by simp)))
        (try replace HI1:=Hd (oPP.heap HI1.out (by simp)))
        (try replace HI2:=Hd (oPP.heap HI2.out (by simp)))
        (try replace HP1:=Hd (HP1.out.kept oPP (by simp)))
        (try replace HP2:=Hd (HP2.out.kept oPP (by simp)))
        (try replace HP3:=Hd (HP3.out.kept oPP (by simp)))
        (try replace HP4:=Hd (HP4.out.kept oPP (by simp)))
        (try replace HP5:=Hd (HP5.out.kept oPP (by simp)))
        have HP3:=Hd hb7
        clear HNP HOP HGP hb7 ho7 oPP
        have HEQ:=Hd (show (decide ((0:Int)=0) && decide (blankP=blankP))=true by decide)
        have K60:Hid (blankP.length=60):=Hd (by rfl)
        have K61:Hid (((0:Int) :: blankP).length=61):=Hd (by rfl)
        obtain ⟨ec,hec⟩:∃ x,x=errV k:=⟨_,rfl⟩
        rw [← hec]
        have HEC:=Hd hec
        clear hec HX1 HDV1 HDV3 HA1 HA3 HP1 HRA2
        go_simp
        repeat (first
          | (guard_target =~ Oper.wp _ (Oper.mk (some 88) _ _ _ _ _) _ _ _ _;refine wp_page_load (.tmp 14) rfl gp2 (by rfl) (0 :: blankP) HP2.out K61.out ?_;simp only [Act.put,List.setIfInBounds_toArray,List.set_cons_zero,List.set_cons_succ])
          | (guard_target =~ Oper.wp _ (Oper.mk (some 89) _ _ _ _ _) _ _ _ _;refine wp_page_load (.tmp 16) rfl gp3 (by rfl) (0 :: blankP) HP3.out K61.out ?_;simp only [Act.put,List.setIfInBounds_toArray,List.set_cons_zero,List.set_cons_succ])
          | (guard_target =~ Oper.wp _ (Oper.mk (some 90) _ _ _ _ _) _ _ _ _;refine wp_page_eql (.tmp 88) (.tmp 89) rfl 0 0 blankP blankP (by rfl) (by rfl) K60.out K60.out ?_;rw [HEQ.out];simp only [Act.put,List.setIfInBounds_toArray,List.set_cons_zero,List.set_cons_succ])
          | go_values | go_skip | go_guarded | go_step | go_upon)
        rw [HEC.out]
        refine (num_errT k w9).mono ?_
        rintro e wn ⟨rfl,rfl⟩
        dsimp only
        rw [← HEC.out]
        go_simp
        repeat (first
          | (guard_target =~ Oper.wp _ (Oper.mk (some 88) _ _ _ _ _) _ _ _ _;refine wp_page_load (.tmp 14) rfl gp2 (by rfl) (0 :: blankP) HP2.out K61.out ?_;simp only [Act.put,List.setIfInBounds_toArray,List.set_cons_zero,List.set_cons_succ])
          | (guard_target =~ Oper.wp _ (Oper.mk (some 89) _ _ _ _ _) _ _ _ _;refine wp_page_load (.tmp 16) rfl gp3 (by rfl) (0 :: blankP) HP3.out K61.out ?_;simp only [Act.put,List.setIfInBounds_toArray,List.set_cons_zero,List.set_cons_succ])
          | (guard_target =~ Oper.wp _ (Oper.mk (some 90) _ _ _ _ _) _ _ _ _;refine wp_page_eql (.tmp 88) (.tmp 89) rfl 0 0 blankP blankP (by rfl) (by rfl) K60.out K60.out ?_;rw [HEQ.out];simp only [Act.put,List.setIfInBounds_toArray,List.set_cons_zero,List.set_cons_succ])
          | go_values | go_skip | go_guarded | go_step | go_upon)
        rw [HEC.out]
        refine (num_errT k w9).mono ?_
        rintro e wn ⟨rfl,rfl⟩
        dsimp only
        have hcc:((k:Int) == k)=true:=by simp
        go_simp
        repeat (first
          | (guard_target =~ Oper.wp _ (Oper.mk (some 88) _ _ _ _ _) _ _ _ _;refine wp_page_load (.tmp 14) rfl gp2 (by rfl) (0 :: blankP) HP2.out K61.out ?_;simp only [Act.put,List.setIfInBounds_toArray,List.set_cons_zero,List.set_cons_succ])
          | (guard_target =~ Oper.wp _ (Oper.mk (some 89) _ _ _ _ _) _ _ _ _;refine wp_page_load (.tmp 16) rfl gp3 (by rfl) (0 :: blankP) HP3.out K61.out ?_;simp only [Act.put,List.setIfInBounds_toArray,List.set_cons_zero,List.set_cons_succ])
          | (guard_target =~ Oper.wp _ (Oper.mk (some 90) _ _ _ _ _) _ _ _ _;refine wp_page_eql (.tmp 88) (.tmp 89) rfl 0 0 blankP blankP (by rfl) (by rfl) K60.out K60.out ?_;rw [HEQ.out];simp only [Act.put,List.setIfInBounds_toArray,List.set_cons_zero,List.set_cons_succ])
          | go_values | go_skip | go_guarded | go_step | go_upon)
        go_ret
        exact ⟨rfl,HO.out⟩
      · have HCW2:=Hd (ranC_w HWH1.out HTU1.out HCW.out m1)
        obtain rfl:=hr.trans h
        clear h hr
        generalize ranC d1 c m1=c2 at KR HRA2 HCW2
        have H612:Hid ((5 :: c2).length=61):=Hd (by rw [List.length_cons,HCW2.out.len])
        go_wp2_with (refine wpList_load_page rfl _ rfl gp1 (by rfl) (5 :: c) HP1.out H61.out ?_)
        refine KR.mono ?_
        rintro e w7a ⟨rfl,oR⟩
        dsimp only
        replace HO:=Hd (HO.out.trans oR (by simp))
        (try replace HX1:=Hd (oR.heap HX1.out (by simp)))
        (try replace HX2:=Hd (oR.heap HX2.out (by simp)))
        (try replace HOK1:=Hd (fun d h=>(HOK1.out d h).kept oR (by simp) (fun _ h=>h)))
        (try replace HOK2:=Hd (fun d h=>(HOK2.out d h).kept oR (by simp) (fun _ h=>h)))
        (try replace HDV1:=Hd (HDV1.out.kept oR (by simp) (fun _ h=>h)))
        (try replace HDV2:=Hd (HDV2.out.kept oR (by simp) (fun _ h=>h)))
        (try replace HDV3:=Hd (HDV3.out.kept oR (by simp) (fun _ h=>h)))
        (try replace HDV4:=Hd (HDV4.out.kept oR (by simp) (fun _ h=>h)))
        (try replace HA1:=Hd (oR.heap HA1.out (by simp)))
        (try replace HA2:=Hd (oR.heap HA2.out (by simp)))
        (try replace HA3:=Hd (oR.heap HA3.out (by simp)))
        (try replace HA4:=Hd (oR.heap HA4.out (by simp)))
        (try replace HI1:=Hd (oR.heap HI1.out (by simp)))
        (try replace HI2:=Hd (oR.heap HI2.out (by simp)))
        (try replace HP1:=Hd (HP1.out.kept oR (by simp)))
        (try replace HP2:=Hd (HP2.out.kept oR (by simp)))
        (try replace HP3:=Hd (HP3.out.kept oR (by simp)))
        (try replace HP4:=Hd (HP4.out.kept oR (by simp)))
        (try replace HP5:=Hd (HP5.out.kept oR (by simp)))
        clear KR oR y0 y1 y2 y3 y4 xx
        go_upto_region 17 with (first
          | (clear T2
             refine wpList_new_page rfl rfl ?_
             intro wn gp2 hbp hgp hop
             have HNP:=Hd hbp
             have HOP:=Hd hop
             have HGP:=Hd hgp
             clear hbp hgp hop)
          | (refine wpList_store_page rfl _ _ rfl gp2 (5 :: c2) (by rfl) (by rfl) H612.out _ HNP.out (by rfl) ?_
             intro w8 hb7 ho7))
        have oPP:Only [] w7a w8:=HOP.out.trans ho7 (fun k hk=>.inr (by rw [List.mem_singleton.1 hk];exact HGP.out))
        replace HO:=Hd (HO.out.trans oPP (by simp))
        (try replace HX1:=Hd (oPP.heap HX1.out (by simp)))
        (try replace HX2:=Hd (oPP.heap HX2.out (by simp)))
        (try replace HOK1:=Hd (fun d h=>(HOK1.out d h).kept oPP (by simp) (fun _ h=>h)))
        (try replace HOK2:=Hd (fun d h=>(HOK2.out d h).kept oPP (by simp) (fun _ h=>h)))
        (try replace HDV1:=Hd (HDV1.out.kept oPP (by simp) (fun _ h=>h)))
        (try replace HDV2:=Hd (HDV2.out.kept oPP (by simp) (fun _ h=>h)))
        (try replace HDV3:=Hd (HDV3.out.kept oPP (by simp) (fun _ h=>h)))
        (try replace HDV4:=Hd (HDV4.out.kept oPP (by simp) (fun _ h=>h)))
        (try replace HA1:=Hd (oPP.heap HA1.out (by simp)))
        (try replace HA2:=Hd (oPP.heap HA2.out (by simp)))
        (try replace HA3:=Hd (oPP.heap HA3.out (by simp)))
        (try replace HA4:=Hd (oPP.heap HA4.out (by simp)))
        (try replace HI1:=Hd (oPP.heap HI1.out (by simp)))
        (try replace HI2:=Hd (oPP.heap HI2.out (by simp)))
        (try replace HP1:=Hd (HP1.out.kept oPP (by simp)))
        (try replace HP2:=Hd (HP2.out.kept oPP (by simp)))
        (try replace HP3:=Hd (HP3.out.kept oPP (by simp)))
        (try replace HP4:=Hd (HP4.out.kept oPP (by simp)))
        (try replace HP5:=Hd (HP5.out.kept oPP (by simp)))
        have HP2:=Hd hb7
        clear HNP HOP HGP hb7 ho7 oPP
        have y0:w8.cell? ⟨gd3,0,none⟩=some (.string sn3):=cell_at 0 HA3.out
        have y1:w8.cell? ⟨gd3,1,none⟩=some (.slice a13 l13 c13):=cell_at 1 HA3.out
        have y2:w8.cell? ⟨gd3,2,none⟩=some (.slice a23 l23 c23):=cell_at 2 HA3.out
        have y3:w8.cell? ⟨gd3,3,none⟩=some (.slice a33 l33 c33):=cell_at 3 HA3.out
        have y4:w8.cell? ⟨gd3,4,none⟩=some (.slice a43 l43 c43):=cell_at 4 HA3.out
        have xx:w8.cell? ⟨gx1,2,none⟩=some (.slice ca1 mn1 cc1):=cell_at 2 HX1.out
        have KR:=run_any HDV3.out HWH3.out HPL3.out HGD3.out HCW.out (n:=5) (HC1.out.kept HO.out (by intro a n c e h;simp)) HM1.out
        rw [HRA2.out] at KR
        go_wp2_with (refine wpList_load_page rfl _ rfl gp1 (by rfl) (5 :: c) HP1.out H61.out ?_)
        refine KR.mono ?_
        rintro e w8a ⟨rfl,oR⟩
        dsimp only
        replace HO:=Hd (HO.out.trans oR (by simp))
        (try replace HX1:=Hd (oR.heap HX1.out (by simp)))
        (try replace HX2:=Hd (oR.heap HX2.out (by simp)))
        (try replace HOK1:=Hd (fun d h=>(HOK1.out d h).kept oR (by simp) (fun _ h=>h)))
        (try replace HOK2:=Hd (fun d h=>(HOK2.out d h).kept oR (by simp) (fun _ h=>h)))
        (try replace HDV1:=Hd (HDV1.out.kept oR (by simp) (fun _ h=>h)))
        (try replace HDV2:=Hd (HDV2.out.kept oR (by simp) (fun _ h=>h)))
        (try replace HDV3:=Hd (HDV3.out.kept oR (by simp) (fun _ h=>h)))
        (try replace HDV4:=Hd (HDV4.out.kept oR (by simp) (fun _ h=>h)))
        (try replace HA1:=Hd (oR.heap HA1.out (by simp)))
        (try replace HA2:=Hd (oR.heap HA2.out (by simp)))
        (try replace HA3:=Hd (oR.heap HA3.out (by simp)))
        (try replace HA4:=Hd (oR.heap HA4.out (by simp)))
        (try replace HI1:=Hd (oR.heap HI1.out (by simp)))
        (try replace HI2:=Hd (oR.heap HI2.out (by simp)))
        (try replace HP1:=Hd (HP1.out.kept oR (by simp)))
        (try replace HP2:=Hd (HP2.out.kept oR (by simp)))
        (try replace HP3:=Hd (HP3.out.kept oR (by simp)))
        (try replace HP4:=Hd (HP4.out.kept oR (by simp)))
        (try replace HP5:=Hd (HP5.out.kept oR (by simp)))
        clear KR oR y0 y1 y2 y3 y4 xx
        go_upto_region 18 with (first
          | (clear T3
             refine wpList_new_page rfl rfl ?_
             intro wn gp3 hbp hgp hop
             have HNP:=Hd hbp
             have HOP:=Hd hop
             have HGP:=Hd hgp
             clear hbp hgp hop)
          | (refine wpList_store_page rfl _ _ rfl gp3 (5 :: c2) (by rfl) (by rfl) H612.out _ HNP.out (by rfl) ?_
             intro w9 hb7 ho7))
        have oPP:Only [] w8a w9:=HOP.out.trans ho7 (fun k hk=>.inr (by rw [List.mem_singleton.1 hk];exact HGP.out))
        replace HO:=Hd (HO.out.trans oPP (by simp))
        (try replace HX1:=Hd (oPP.heap HX1.out (by simp)))
        (try replace HX2:=Hd (oPP.heap HX2.out (by simp)))
        (try replace HOK1:=Hd (fun d h=>(HOK1.out d h).kept oPP (by simp) (fun _ h=>h)))
        (try replace HOK2:=Hd (fun d h=>(HOK2.out d h).kept oPP (by simp) (fun _ h=>h)))
        (try replace HDV1:=Hd (HDV1.out.kept oPP (by simp) (fun _ h=>h)))
        (try replace HDV2:=Hd (HDV2.out.kept oPP (by simp) (fun _ h=>h)))
        (try replace HDV3:=Hd (HDV3.out.kept oPP (by simp) (fun _ h=>h)))
        (try replace HDV4:=Hd (HDV4.out.kept oPP (by simp) (fun _ h=>h)))
        (try replace HA1:=Hd (oPP.heap HA1.out (by simp)))
        (try replace HA2:=Hd (oPP.heap HA2.out (by simp)))
        (try replace HA3:=Hd (oPP.heap HA3.out (by simp)))
        (try replace HA4:=Hd (oPP.heap HA4.out (by simp)))
        (try replace HI1:=Hd (oPP.heap HI1.out (by simp)))
        (try replace HI2:=Hd (oPP.heap HI2.out (by simp)))
        (try replace HP1:=Hd (HP1.out.kept oPP (by simp)))
        (try replace HP2:=Hd (HP2.out.kept oPP (by simp)))
        (try replace HP3:=Hd (HP3.out.kept oPP (by simp)))
        (try replace HP4:=Hd (HP4.out.kept oPP (by simp)))
        (try replace HP5:=Hd (HP5.out.kept oPP (by simp)))
        have HP3:=Hd hb7
        clear HNP HOP HGP hb7 ho7 oPP
        have HEQ:=Hd (eq_pages c2)
        have K60:=Hd HCW2.out.len
        have K61:=H612
        obtain ⟨ec,hec⟩:∃ x,x=errV 0:=⟨_,rfl⟩
        rw [← hec]
        have HEC:=Hd hec
        clear hec HX1 HDV1 HDV3 HA1 HA3 HP1 HRA2
        go_simp
        repeat (first
          | (guard_target =~ Oper.wp _ (Oper.mk (some 88) _ _ _ _ _) _ _ _ _;refine wp_page_load (.tmp 14) rfl gp2 (by rfl) (5 :: c2) HP2.out K61.out ?_;simp only [Act.put,List.setIfInBounds_toArray,List.set_cons_zero,List.set_cons_succ])
          | (guard_target =~ Oper.wp _ (Oper.mk (some 89) _ _ _ _ _) _ _ _ _;refine wp_page_load (.tmp 16) rfl gp3 (by rfl) (5 :: c2) HP3.out K61.out ?_;simp only [Act.put,List.setIfInBounds_toArray,List.set_cons_zero,List.set_cons_succ])
          | (guard_target =~ Oper.wp _ (Oper.mk (some 90) _ _ _ _ _) _ _ _ _;refine wp_page_eql (.tmp 88) (.tmp 89) rfl 5 5 c2 c2 (by rfl) (by rfl) K60.out K60.out ?_;rw [HEQ.out];simp only [Act.put,List.setIfInBounds_toArray,List.set_cons_zero,List.set_cons_succ])
          | go_values | go_skip | go_guarded | go_step | go_upon)
        rw [HEC.out]
        refine (num_errT 0 w9).mono ?_
        rintro e wn ⟨rfl,rfl⟩
        dsimp only
        rw [← HEC.out]
        go_simp
        repeat (first
          | (guard_target =~ Oper.wp _ (Oper.mk (some 88) _ _ _ _ _) _ _ _ _;refine wp_page_load (.tmp 14) rfl gp2 (by rfl) (5 :: c2) HP2.out K61.out ?_;simp only [Act.put,List.setIfInBounds_toArray,List.set_cons_zero,List.set_cons_succ])
          | (guard_target =~ Oper.wp _ (Oper.mk (some 89) _ _ _ _ _) _ _ _ _;refine wp_page_load (.tmp 16) rfl gp3 (by rfl) (5 :: c2) HP3.out K61.out ?_;simp only [Act.put,List.setIfInBounds_toArray,List.set_cons_zero,List.set_cons_succ])
          | (guard_target =~ Oper.wp _ (Oper.mk (some 90) _ _ _ _ _) _ _ _ _;refine wp_page_eql (.tmp 88) (.tmp 89) rfl 5 5 c2 c2 (by rfl) (by rfl) K60.out K60.out ?_;rw [HEQ.out];simp only [Act.put,List.setIfInBounds_toArray,List.set_cons_zero,List.set_cons_succ])
          | go_values | go_skip | go_guarded | go_step | go_upon)
        rw [HEC.out]
        refine (num_errT 0 w9).mono ?_
        rintro e wn ⟨rfl,rfl⟩
        dsimp only
        have hcc:((0:Int) == 0)=true:=by simp
        go_simp
        repeat (first
          | (guard_target =~ Oper.wp _ (Oper.mk (some 88) _ _ _ _ _) _ _ _ _;refine wp_page_load (.tmp 14) rfl gp2 (by rfl) (5 :: c2) HP2.out K61.out ?_;simp only [Act.put,List.setIfInBounds_toArray,List.set_cons_zero,List.set_cons_succ])
          | (guard_target =~ Oper.wp _ (Oper.mk (some 89) _ _ _ _ _) _ _ _ _;refine wp_page_load (.tmp 16) rfl gp3 (by rfl) (5 :: c2) HP3.out K61.out ?_;simp only [Act.put,List.setIfInBounds_toArray,List.set_cons_zero,List.set_cons_succ])
          | (guard_target =~ Oper.wp _ (Oper.mk (some 90) _ _ _ _ _) _ _ _ _;refine wp_page_eql (.tmp 88) (.tmp 89) rfl 5 5 c2 c2 (by rfl) (by rfl) K60.out K60.out ?_;rw [HEQ.out];simp only [Act.put,List.setIfInBounds_toArray,List.set_cons_zero,List.set_cons_succ])
          | go_values | go_skip | go_guarded | go_step | go_upon)
        go_ret
        exact ⟨rfl,HO.out⟩
set_option maxRecDepth 100000 in
theorem iagain_lifted (os:Os) (started:os.Started) (H:Type) (enc:TypeId×Value→H) :
  ReturnsInHanded {} Try.checked os 5 .any (Rows.invertAgainSpec.pre6 enc Try.prog Try.f5 Rows.invertAgainRow.domain false) (Rows.invertAgainSpec.post enc Try.prog Try.f5 false true false false):=by
 refine returnsInHanded_of_change (C:=Try.checked) law_own started (by kernel_rfl) Try.func5
  (ChangeSpec.witness6 (enc:=enc) (C:=Try.checked) false ⟨#[],#[.agg #[.string ⟨#[]⟩,.slice none 0 0,.slice none 0 0]],[]⟩ 8 (by kernel_rfl) (by kernel_rfl) (by kernel_rfl) (by kernel_rfl)) ?_
 intro W base args ds gs before hval0 hW hcnd _
 have hval:∀ (j:Nat) t v,Try.f5.params[j]?=some t→args[j]?=some v→Value.okWide Try.prog W .any base t v:=hval0
 have hW':=hW
 obtain ⟨p,q,hA0,hV,rfl,hfz,hnd⟩:=hW
 have hA:DataW.TrodAll enc Try.prog W 0 (fun _=>true) true Try.f5.params.toList args.toList ds p:=hA0
 rw [Try.params5] at hA hval
 obtain ⟨v0,vs0,d0,ds0,p0,q0,hargs,rfl,rfl,h0,r0⟩:=trodAll_cons hA
 obtain ⟨rfl,rfl,rfl⟩:=trodAll_nil r0
 obtain rfl:args=#[v0]:=by cases args;simp_all
 obtain ⟨rfl,rfl⟩:=trodVars_none hV
 have h0':=h0
 obtain ⟨s0,b0,l0,c0,m0,rfl,hs0,hb0,hg0,hl0,hc0,hk0,hm0⟩:=open_case9 (hval 0 41 v0 rfl rfl) h0
 have hlt0:∀ x∈p0,x.block < W.heap.size:=fun x hx=>hW'.lt x (by simp [hx])
 clear hA0 hval0
 refine (iagain_walk s0 b0 c0 l0 m0 W hs0 hb0 hg0 hl0 hc0 hk0 hm0).mono fun e W' ⟨he,hg⟩=>?_
 subst he
 exact ⟨_,rfl,post_quiet (pa:=(p0++[])) (pv:=[]) hW' hg (fun _ _ _=>(trodAll_cons_mk (shut_bool Try.underlying4 _) trodAll_mk0)) (fun sp hsp=>(trodAll_cons_mk (arg_stays (by kernel_rfl) (of_decide_eq_true (by kernel_rfl)) h0' hg hlt0 (fun x hx=>hsp x (by simp [hx]))) trodAll_mk0)) (fun _ _=>rfl) (by simp) (ok_one (by kernel_rfl) rfl (okWide_bool_mk Try.underlying4 _))⟩
theorem iagain_over:Rows.invertAgainRow.holds Try.pinned (OpenSpec.ofChange Rows.invertAgainSpec):=
 OpenClaim.holds_of_wide 5 Try.f5 rfl rfl rfl rfl rfl rfl rfl ⟨rfl,rfl,rfl,rfl,rfl⟩ rfl rfl rfl rfl rfl (by kernel_rfl) Try.func5 (by kernel_rfl)
  (of_decide_eq_true (by kernel_rfl)) (by unfold Func.isWrapper;first | (rw [if_pos (by decide +kernel)];kernel_rfl) | (rw [if_neg (by decide +kernel)];exact ⟨rfl,rfl⟩))
  (fun os started H enc _=>iagain_lifted os started H enc)
theorem iagain_holds:Rows.InvertAgainSaid:=
 iagain_over
#print axioms iagain_holds
end Go.Proofs.Ytagkbbcpbebapaa
