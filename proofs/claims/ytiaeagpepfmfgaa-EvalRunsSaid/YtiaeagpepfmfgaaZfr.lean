import Derived.Test.YtiaeagpepfmfgaaWar
import Derived.Test.YtiaeagpepfmfgaaZer
import Derived.Test.YtiaeagpepfmfgaaG21r
import Derived.Test.YtiaeagpepfmfgaaBar
import Derived.Deep.Slices
import Derived.Carry
import Derived.Lib.SmallJoins
import Derived.Test.YtiaeagpepfmfgaaQar
import Derived.ChangeMaps5
namespace Go.Proofs.Ytiaeagpepfmfgaa
open Go.RowKit Go.Maps
set_option linter.unusedSimpArgs false
set_option linter.unusedVariables false
section
variable {w:World} {o:Oper} {a:Act} {K:Act→World→Prop} {Q:Exit→Act→World→Prop}
theorem wp_page_load (x:Operand) (ho:o.op=.load 35 x) (g:Nat) (hx:a.eval x=.pointer (some ⟨g,0,none⟩)) (l:List Int) (hb:PB w g 35 l) (hl:l.length=61)
  (h:K (a.put o.dst (.agg (ivA l))) w):o.wp Try.prog a w K Q:=
 wp_load_row _ x ho g hx _ _ _ _ hb Try.underlying35 rfl (size_page l hl) h
theorem wp_page_built (ps:List (Nat×Operand)) (ho:o.op=.build 35 ps.toArray) (l:List Int) (hl:Try.prog.built 35 (ps.map fun x=>(x.1,a.eval x.2))=some (ivA l))
  (h:K (a.put o.dst (.agg (ivA l))) w):o.wp Try.prog a w K Q:=by
 have e:(ps.toArray.map fun (i,x)=>(i,a.eval x)).toList=ps.map fun x=>(x.1,a.eval x.2):=by simp
 refine wp_build _ ps.toArray ho (by rw [e,hl];rfl) ?_
 rw [e,hl]
 exact h
theorem wp_page_eql (x y:Operand) (ho:o.op=.binOp .eql 35 x y 35) (n m:Int) (c d:List Int) (hx:a.eval x=.agg (ivA (n :: c))) (hy:a.eval y=.agg (ivA (m :: d))) (hc:c.length=60) (hd:d.length=60)
  (h:K (a.put o.dst (.bool (decide (n=m) && decide (c=d)))) w):o.wp Try.prog a w K Q:=by
 have hrun:(execOp a.eval o).run Try.prog w=.ok (.value (.bool (decide (n=m) && decide (c=d)))) w:=by
  simp only [execOp,ho,hx,hy,Sem.run_bind,run_eqGuard_agg w .eql 35 x y _ _ guard_page,Result.andThen_ok,eql_page n m c d hc hd,Sem.run_pure]
 unfold Oper.wp
 rw [hrun]
 exact h
end
set_option maxRecDepth 100000 in
theorem filled9_any (v:Value) (l:List Int) (w:World) (hv:IntsV w v l) (hl:l.length≤9223372036854775807) :
    Calls Try.prog 11 #[v] w fun e w'=>e=.returned (.agg (ivA (5 :: filC l 60)))∧Only [] w w':=by
  obtain ⟨a,cap,rfl,-⟩:=id hv
  have HV:=Hd hv
  clear hv
  have HZ:=Hd (filC_zero l)
  go_enter Try.func11,Try.ntmps11
  have T1:=trivial
  have T2:=trivial
  go_wp2_with (first
    | (clear T1
       refine wpList_new_page rfl rfl ?_
       intro w1 g1 hb1 hg1 ho1
       have HB1:=Hd hb1
       have HG1:=Hd hg1
       have HO1:=Hd ho1
       clear hb1 hg1 ho1)
    | (refine wpList_built rfl [(0,.const (.int .i64 5))] rfl (5 :: blankP) (built_num 5) ?_)
    | (clear T2
       refine wpList_new_page rfl rfl ?_
       intro w2 g2 hb2 hg2 ho2
       have HO2:=Hd (HO1.out.trans ho2 (by simp))
       have HB1':=Hd (HB1.out.kept ho2 (by simp))
       have hne:g1≠g2:=by have:=HB1.out.lt;omega
       have HG2:=Hd (Nat.le_trans HO1.out.size hg2)
       have HB2:=Hd hb2
       clear hb2 hg2 ho2 HB1 HO1)
    | (refine wpList_store_page rfl _ _ rfl g2 (5 :: blankP) (by rfl) (by rfl) (by rfl) _ HB2.out (by rfl) ?_
       intro w3 hb3 ho3
       have ho4:=HO2.out.trans ho3 (by simp;exact HG2.out)
       have hb4:=HB1'.out.kept ho3 (by simpa using hne)
       rw [← HZ.out] at hb3
       clear HO2 ho3 HB1' HB2))
  have HG1':w.heap.size≤g2:=HG2.out
  by_cases hnil:l.length=0
  · obtain rfl:l=[]:=List.eq_nil_of_length_eq_zero hnil
    go_loopw [4,6] (fun _ i wr=>∃ k:Nat,k≤60∧i=.int .i64 k∧PB wr g2 35 (5 :: filC [] k)∧PB wr g1 35 (List.replicate 61 0)∧Only [] w wr) (fun _ i _=>60 - (intOf i).toNat)
    case atStart=>exact ⟨0,by omega,rfl,hb3,hb4,ho4⟩
    case round=>
      obtain ⟨k,hk,rfl,hb,hb',ho⟩:=hrel
      by_cases hlt:k < 60
      · rw [filC_nil,← filC_nil (k+1)] at hb
        go_wp2_with fail
        go_roundw
        case rel=>exact ⟨k+1,by omega,by go_num,hb,hb',ho⟩
        case measure=>simp [intOf];omega
      · obtain rfl:k=60:=by omega
        have HO:=Hd ho
        clear ho
        go_wp2_with (first
          | (refine wpList_load_page rfl _ rfl g2 (by rfl) _ hb (by simp [filC_length]) ?_)
          | (refine wpList_store_page rfl _ _ rfl g1 (5 :: filC [] 60) (by rfl) (by rfl) (by simp [filC_length]) _ hb' (by rfl) ?_
             intro w5 hb5 ho5))
        exact bodyPost_ret (results_page rfl _ _ g1 _ (by rfl) hb5 (by simp [filC_length])) rfl ⟨rfl,HO.out.trans ho5 (by simp;exact HG1.out)⟩
  · go_loopw [4,6] (fun _ i wr=>∃ k:Nat,k≤60∧i=.int .i64 k∧PB wr g2 35 (5 :: filC l k)∧PB wr g1 35 (List.replicate 61 0)∧Only [] w wr) (fun _ i _=>60 - (intOf i).toNat)
    case atStart=>exact ⟨0,by omega,rfl,hb3,hb4,ho4⟩
    case round=>
      obtain ⟨k,hk,rfl,hb,hb',ho⟩:=hrel
      by_cases hlt:k < 60
      · have hm:k % l.length < l.length:=Nat.mod_lt _ (by omega)
        obtain ⟨z,hz⟩:∃ z,l[k % l.length]?=some z:=⟨_,List.getElem?_eq_getElem hm⟩
        obtain ⟨-,b,off,cap1,e1,hcell⟩:=(HV.out.kept ho (by intro a n c e h;simp)).at_ hz
        cases e1
        have hfil:fil l k=z:=by simp [fil,List.getD,hz]
        have hset:=filC_set l k hlt
        rw [hfil] at hset
        have hc2:∃ v,wr.cell? ⟨g2,1+k,none⟩=some v:=⟨_,hb.cell (z:=(filC l k)[k]'(by rw [filC_length];omega)) (by rw [Nat.add_comm,List.getElem?_cons_succ,List.getElem?_eq_getElem])⟩
        obtain ⟨v2,hc2⟩:=hc2
        have hf2:wr.frozen? ⟨g2,1+k,none⟩=false:=hb.free _
        have hb5:PB (wr.setCell ⟨g2,1+k,none⟩ (.int .i64 z)) g2 35 (5 :: filC l (k+1)):=by
          have e:(5 :: filC l k).set (1+k) z=5 :: filC l (k+1):=by rw [Nat.add_comm,List.set_cons_succ,hset]
          rw [← e]
          exact hb.set (1+k) z
        have ho5:Only [] w (wr.setCell ⟨g2,1+k,none⟩ (.int .i64 z)):=ho.setCell (Or.inr HG1') _
        have hb6:PB (wr.setCell ⟨g2,1+k,none⟩ (.int .i64 z)) g1 35 (List.replicate 61 0):=hb'.kept ((Only.refl [g2] wr).setCell (.inl (by simp)) _) (by simpa using hne)
        have hrem:(k:Int).tmod (l.length:Int)=((k % l.length:Nat):Int):=by rw [Int.ofNat_tmod]
        clear hb hb' ho hset hfil hz
        go_wp2_with fail
        go_roundw
        case rel=>exact ⟨k+1,by omega,by go_num,hb5,hb6,ho5⟩
        case measure=>simp [intOf];omega
      · obtain rfl:k=60:=by omega
        have HO:=Hd ho
        clear ho
        go_wp2_with (first
          | (refine wpList_load_page rfl _ rfl g2 (by rfl) _ hb (by simp [filC_length]) ?_)
          | (refine wpList_store_page rfl _ _ rfl g1 (5 :: filC l 60) (by rfl) (by rfl) (by simp [filC_length]) _ hb' (by rfl) ?_
             intro w5 hb5 ho5))
        exact bodyPost_ret (results_page rfl _ _ g1 _ (by rfl) hb5 (by simp [filC_length])) rfl ⟨rfl,HO.out.trans ho5 (by simp;exact HG1.out)⟩
theorem ints_two (w:World) {a b:Int} (ha:n64 a) (hb:n64 b):IntsV (w.alloc (.cells #[.int .i64 a,.int .i64 b] 3)) (.slice (some ⟨w.heap.size,0,none⟩) 2 2) [a,b]:=by
 refine ⟨_,2,rfl,fun i k hi=>?_⟩
 have h:=heap_new w (.cells #[.int .i64 a,.int .i64 b] 3)
 rcases i with _ | _ | i
 ·simp only [List.getElem?_cons_zero,Option.some.injEq] at hi
  subst hi
  exact ⟨n64_wf ha,_,0,rfl,cell_at 0 h⟩
 ·simp only [List.getElem?_cons_succ,List.getElem?_cons_zero,Option.some.injEq] at hi
  subst hi
  exact ⟨n64_wf hb,_,0,rfl,cell_at 1 h⟩
 ·simp at hi
theorem wf_n64 {z:Int} (h:(Lit.int .i64 z).wf=true):n64 z:=by
 simp only [Lit.wf,Bool.and_eq_true,decide_eq_true_eq] at h
 exact h
theorem cw_blank:CW blankP:=⟨by rfl,fun z hz=>by simp [blankP] at hz;subst hz;exact n64_zero⟩
theorem cw_fil {l:List Int} (h:∀ z∈l,n64 z) (k:Nat):CW (filC l k):=⟨filC_length l k,fun z hz=>filC_in h k z hz⟩
theorem ints_n64 {w:World} {v:Value} {l:List Int} (h:IntsV w v l):∀ z∈l,n64 z:=by
 intro z hz
 obtain ⟨i,hi⟩:=List.mem_iff_getElem?.1 hz
 obtain ⟨a,cap,rfl,hx⟩:=h
 exact wf_n64 (hx i z hi).1
def dfOf (l:Sec):Df:=match parseS l with | .ok d=>d | .error _=>⟨[],[],[],[],[]⟩
def ParOk (w:World) (d:Df) (e:Ending) (w':World):Prop:=
 ∃ (s:ByteArray) (a1 a2 a3 a4:Option Addr) (l1 l2 l3 l4 c1 c2 c3 c4:Nat),e=.returned (.tuple #[.agg #[.string s,.slice a1 l1 c1,.slice a2 l2 c2,.slice a3 l3 c3,.slice a4 l4 c4],.int .i64 0,.int .i64 0])∧
  DV w' (fun b=>w.heap.size≤b) d [.string s,.slice a1 l1 c1,.slice a2 l2 c2,.slice a3 l3 c3,.slice a4 l4 c4]∧Only [] w w'
theorem parse_ok {s:ByteArray} (w:World) {d:Df} (hs:s.size≤9223372036854775807) (h:parseS s.data.toList=.ok d):Calls Try.prog 10 #[.string s] w (ParOk w d):=by
 refine (rparse_any s w hs).mono ?_
 rintro e w' ⟨sn,a1,a2,a3,a4,l1,l2,l3,l4,c1,c2,c3,c4,c,p,rfl,-,hok,ho⟩
 obtain ⟨rfl,rfl,hdv⟩:=hok d h
 exact ⟨sn,a1,a2,a3,a4,l1,l2,l3,l4,c1,c2,c3,c4,rfl,hdv,ho⟩
def txA9:Sec:=[111,112,32,97,100,100,40,105,44,32,118,41,32,123,32,110,101,101,100,32,105,32,60,32,54,48,59,32,91,105,93,32,43,61,32,118,59,32,103,105,118,101,32,118,59,32,125]
theorem parA9:parseS txA9=.ok (dfOf txA9):=by kernel_rfl
theorem runA9_1:runP (dfOf txA9) 0 blankP [3,5]=((0,blankP.set 3 5),5,0):=by kernel_rfl
theorem runA9_2:runP (dfOf txA9) 0 blankP [60,1]=((0,blankP),0,12):=by kernel_rfl
theorem runA9_3:runP (dfOf txA9) 0 blankP [-1,1]=((0,blankP),1,0):=by kernel_rfl
end Go.Proofs.Ytiaeagpepfmfgaa
namespace Go.Proofs.Ytiaeagpepfmfgaa
open Go.RowKit Go.Maps
set_option linter.unusedSimpArgs false
set_option linter.unusedVariables false
theorem errV0:errV 0=.nilIface:=rfl
theorem errV12:errV 12=err 12:=rfl
theorem e12_e12 (w:World):(binOp .eql 38 (err 12) (err 12)).run Try.prog w=.ok (.bool true) w:=by kernel_rfl
theorem nil_nil9 (w:World):(binOp .eql 38 .nilIface .nilIface).run Try.prog w=.ok (.bool true) w:=by kernel_rfl
set_option maxRecDepth 100000 in
set_option maxHeartbeats 4000000 in
theorem alive9_any (w:World):Calls Try.prog 9 #[] w fun e w'=>e=.returned (.bool true)∧Only [] w w':=by
  have KP:=parse_ok (s:=⟨#[111,112,32,97,100,100,40,105,44,32,118,41,32,123,32,110,101,101,100,32,105,32,60,32,54,48,59,32,91,105,93,32,43,61,32,118,59,32,103,105,118,101,32,118,59,32,125]⟩) w (by decide) (show parseS (⟨#[111,112,32,97,100,100,40,105,44,32,118,41,32,123,32,110,101,101,100,32,105,32,60,32,54,48,59,32,91,105,93,32,43,61,32,118,59,32,103,105,118,101,32,118,59,32,125]⟩:ByteArray).data.toList=_ from parA9)
  go_enter Try.func9,Try.ntmps9
  go_wp2_with fail
  refine KP.mono ?_
  rintro e w1 ⟨sn,a1,a2,a3,a4,l1,l2,l3,l4,c1,c2,c3,c4,rfl,hdv,o1⟩
  have HDV:=Hd hdv
  have HO:=Hd o1
  have HWH:=Hd (parse_whole parA9)
  have HPL:=Hd (parse_plain parA9)
  have HGD:=Hd (parse_good parA9)
  have R1:=Hd runA9_1
  have R2:=Hd runA9_2
  have R3:=Hd runA9_3
  generalize dfOf txA9=d at HDV HWH HPL HGD R1 R2 R3
  clear KP hdv o1
  go_upto_region 2 with (fail)
  have oA:=(Only.refl [] w1).alloc (.cells #[.string sn,.slice a1 l1 c1,.slice a2 l2 c2,.slice a3 l3 c3,.slice a4 l4 c4] 30)
  have hA:=heap_new w1 (.cells #[.string sn,.slice a1 l1 c1,.slice a2 l2 c2,.slice a3 l3 c3,.slice a4 l4 c4] 30)
  obtain ⟨gd,hgd⟩:∃ g,g=w1.heap.size:=⟨_,rfl⟩
  rw [← hgd] at hA⊢
  generalize w1.alloc (.cells #[.string sn,.slice a1 l1 c1,.slice a2 l2 c2,.slice a3 l3 c3,.slice a4 l4 c4] 30)=w2 at oA hA⊢
  replace HO:=Hd (HO.out.trans oA (by simp))
  replace HDV:=Hd (HDV.out.kept oA (by simp) (fun _ h=>h))
  have HA:=Hd hA
  clear oA hA hgd
  have T1:=trivial
  have T2:=trivial
  have T3:=trivial
  have y0:w2.cell? ⟨gd,0,none⟩=some (.string sn):=cell_at 0 HA.out
  have y1:w2.cell? ⟨gd,1,none⟩=some (.slice a1 l1 c1):=cell_at 1 HA.out
  have y2:w2.cell? ⟨gd,2,none⟩=some (.slice a2 l2 c2):=cell_at 2 HA.out
  have y3:w2.cell? ⟨gd,3,none⟩=some (.slice a3 l3 c3):=cell_at 3 HA.out
  have y4:w2.cell? ⟨gd,4,none⟩=some (.slice a4 l4 c4):=cell_at 4 HA.out
  go_wp2_with (refine wpList_built rfl [] rfl (0 :: blankP) built_none ?_)
  have oS:=(Only.refl [] w2).alloc (.cells #[.int .i64 3,.int .i64 5] 3)
  have KR:=run_any (HDV.out.kept oS (by simp) (fun _ h=>h)) HWH.out HPL.out HGD.out cw_blank (n:=0) (ints_two w2 (a:=3) (b:=5) (by unfold n64;omega) (by unfold n64;omega)) (by unfold maxLen;decide)
  rw [R1.out] at KR
  refine KR.mono ?_
  rintro e w3 ⟨rfl,oR⟩
  (try rw [errV0])
  (try rw [errV12])
  dsimp only
  have oT:=oS.trans oR (by simp)
  replace HO:=Hd (HO.out.trans oT (by simp))
  replace HDV:=Hd (HDV.out.kept oT (by simp) (fun _ h=>h))
  replace HA:=Hd (oT.heap HA.out (by simp))
  clear KR oS oR oT y0 y1 y2 y3 y4
  go_upto_region 3 with (first
    | (clear T1
       refine wpList_new_page rfl rfl ?_
       intro w4 gp hbp hgp hop
       have HP1:=Hd hbp
       have HOP:=Hd hop
       have HGP:=Hd hgp
       clear hbp hgp hop)
    | (refine wpList_store_page rfl _ _ rfl gp (0 :: blankP.set 3 5) (by rfl) (by rfl) (by rfl) _ HP1.out (by rfl) ?_
       intro w5 hb5 ho5))
  have o35:Only [] w3 w5:=HOP.out.trans ho5 (fun k hk=>.inr (by rw [List.mem_singleton.1 hk];exact HGP.out))
  replace HO:=Hd (HO.out.trans o35 (by simp))
  replace HDV:=Hd (HDV.out.kept o35 (by simp) (fun _ h=>h))
  replace HA:=Hd (o35.heap HA.out (by simp))
  have HB1:=Hd hb5
  clear HP1 HOP HGP hb5 ho5 o35
  have y0:w5.cell? ⟨gd,0,none⟩=some (.string sn):=cell_at 0 HA.out
  have y1:w5.cell? ⟨gd,1,none⟩=some (.slice a1 l1 c1):=cell_at 1 HA.out
  have y2:w5.cell? ⟨gd,2,none⟩=some (.slice a2 l2 c2):=cell_at 2 HA.out
  have y3:w5.cell? ⟨gd,3,none⟩=some (.slice a3 l3 c3):=cell_at 3 HA.out
  have y4:w5.cell? ⟨gd,4,none⟩=some (.slice a4 l4 c4):=cell_at 4 HA.out
  go_wp2_with (refine wpList_built rfl [] rfl (0 :: blankP) built_none ?_)
  have oS:=(Only.refl [] w5).alloc (.cells #[.int .i64 60,.int .i64 1] 3)
  have KR:=run_any (HDV.out.kept oS (by simp) (fun _ h=>h)) HWH.out HPL.out HGD.out cw_blank (n:=0) (ints_two w5 (a:=60) (b:=1) (by unfold n64;omega) (by unfold n64;omega)) (by unfold maxLen;decide)
  rw [R2.out] at KR
  refine KR.mono ?_
  rintro e w6 ⟨rfl,oR⟩
  (try rw [errV0])
  (try rw [errV12])
  dsimp only
  have oT:=oS.trans oR (by simp)
  replace HO:=Hd (HO.out.trans oT (by simp))
  replace HDV:=Hd (HDV.out.kept oT (by simp) (fun _ h=>h))
  replace HA:=Hd (oT.heap HA.out (by simp))
  replace HB1:=Hd (HB1.out.kept oT (by simp))
  clear KR oS oR oT y0 y1 y2 y3 y4
  go_upto_region 4 with (first
    | (clear T2
       refine wpList_new_page rfl rfl ?_
       intro w7 gp2 hbp hgp hop
       have HP1:=Hd hbp
       have HOP:=Hd hop
       have HGP:=Hd hgp
       clear hbp hgp hop)
    | (refine wpList_store_page rfl _ _ rfl gp2 (0 :: blankP) (by rfl) (by rfl) (by rfl) _ HP1.out (by rfl) ?_
       intro w8 hb8 ho8))
  have o68:Only [] w6 w8:=HOP.out.trans ho8 (fun k hk=>.inr (by rw [List.mem_singleton.1 hk];exact HGP.out))
  replace HO:=Hd (HO.out.trans o68 (by simp))
  replace HDV:=Hd (HDV.out.kept o68 (by simp) (fun _ h=>h))
  replace HA:=Hd (o68.heap HA.out (by simp))
  replace HB1:=Hd (HB1.out.kept o68 (by simp))
  clear HP1 HOP HGP hb8 ho8 o68
  have y0:w8.cell? ⟨gd,0,none⟩=some (.string sn):=cell_at 0 HA.out
  have y1:w8.cell? ⟨gd,1,none⟩=some (.slice a1 l1 c1):=cell_at 1 HA.out
  have y2:w8.cell? ⟨gd,2,none⟩=some (.slice a2 l2 c2):=cell_at 2 HA.out
  have y3:w8.cell? ⟨gd,3,none⟩=some (.slice a3 l3 c3):=cell_at 3 HA.out
  have y4:w8.cell? ⟨gd,4,none⟩=some (.slice a4 l4 c4):=cell_at 4 HA.out
  go_wp2_with (refine wpList_built rfl [] rfl (0 :: blankP) built_none ?_)
  have oS:=(Only.refl [] w8).alloc (.cells #[.int .i64 (-1),.int .i64 1] 3)
  have KR:=run_any (HDV.out.kept oS (by simp) (fun _ h=>h)) HWH.out HPL.out HGD.out cw_blank (n:=0) (ints_two w8 (a:=(-1)) (b:=1) (by unfold n64;omega) (by unfold n64;omega)) (by unfold maxLen;decide)
  rw [R3.out] at KR
  refine KR.mono ?_
  rintro e w9 ⟨rfl,oR⟩
  (try rw [errV0])
  (try rw [errV12])
  dsimp only
  have oT:=oS.trans oR (by simp)
  replace HO:=Hd (HO.out.trans oT (by simp))
  replace HDV:=Hd (HDV.out.kept oT (by simp) (fun _ h=>h))
  replace HA:=Hd (oT.heap HA.out (by simp))
  replace HB1:=Hd (HB1.out.kept oT (by simp))
  clear KR oS oR oT y0 y1 y2 y3 y4
  go_upto_region 5 with (first
    | (clear T3
       refine wpList_new_page rfl rfl ?_
       intro w10 gp3 hbp hgp hop
       have HP1:=Hd hbp
       have HOP:=Hd hop
       have HGP:=Hd hgp
       clear hbp hgp hop)
    | (refine wpList_store_page rfl _ _ rfl gp3 (0 :: blankP) (by rfl) (by rfl) (by rfl) _ HP1.out (by rfl) ?_
       intro w11 hb11 ho11))
  have o911:Only [] w9 w11:=HOP.out.trans ho11 (fun k hk=>.inr (by rw [List.mem_singleton.1 hk];exact HGP.out))
  replace HO:=Hd (HO.out.trans o911 (by simp))
  replace HB1:=Hd (HB1.out.kept o911 (by simp))
  have HB3:=Hd hb11
  clear HP1 HOP HGP hb11 ho11 o911 HDV HA HWH HPL HGD R1 R2 R3
  have x3:w11.cell? ⟨gp,4,none⟩=some (.int .i64 5):=HB1.out.cell (by rfl)
  have q1:=e12_e12
  have q2:=nil_nil9
  have d2:(decide ((0:Int)=0) && decide (blankP=blankP))=true:=by decide
  have H61:Hid (((0:Int) :: blankP).length=61):=Hd (by rfl)
  go_simp
  repeat (first
    | (guard_target =~ Oper.wp _ (Oper.mk (some 68) _ _ _ _ _) _ _ _ _;refine wp_page_load (.tmp 10) rfl gp3 (by rfl) (0 :: blankP) HB3.out H61.out ?_;simp only [Act.put,List.setIfInBounds_toArray,List.set_cons_zero,List.set_cons_succ])
    | (guard_target =~ Oper.wp _ (Oper.mk (some 69) _ _ _ _ _) _ _ _ _;refine wp_page_built [] rfl (0 :: blankP) built_none ?_;simp only [Act.put,List.setIfInBounds_toArray,List.set_cons_zero,List.set_cons_succ])
    | (guard_target =~ Oper.wp _ (Oper.mk (some 70) _ _ _ _ _) _ _ _ _;refine wp_page_eql (.tmp 68) (.tmp 69) rfl 0 0 blankP blankP (by rfl) (by rfl) (by rfl) (by rfl) ?_;rw [d2];simp only [Act.put,List.setIfInBounds_toArray,List.set_cons_zero,List.set_cons_succ])
    | go_values | go_skip | go_guarded | go_step | go_upon)
  go_ret
  exact ⟨rfl,HO.out⟩
end Go.Proofs.Ytiaeagpepfmfgaa
namespace Go.Proofs.Ytiaeagpepfmfgaa
open Go.ChangeShapes Go.WideShapes Go.ChangeAt Go.RowKit Go.Deep
set_option linter.unusedVariables false
section
variable {H:Type} {enc:TypeId×Value→H} {W:World} {base:Nat} {sp:Nat→Bool} {held:Bool}
theorem addr_add (a:Addr) (i:Nat) (h:a.spot=none):a.add i=⟨a.block,a.off+i,none⟩:=by
 unfold Addr.add
 obtain ⟨b,o,s⟩:=a
 simp only at h
 subst h
 split<;>simp_all
theorem spot_none {a:Addr} {v:Value} (h:W.cell? a=some v):a.spot=none:=by
 unfold World.cell? at h
 split at h
 ·split at h
  ·cases h
  ·rename_i hs;simpa using hs
 ·cases h
theorem cells_one {a:Addr} {cs':List Value} (h:W.cells? base a 1=some cs'):∃ u,cs'=[u]∧W.cell? a=some u:=by
 obtain ⟨_,hl,hat⟩:=World.cells?_some h
 match cs',hl with
 | [u],_=>
  have:=hat 0 (by omega)
  have ha0:a.add 0=a:=by simp [Addr.add]
  rw [ha0] at this
  exact ⟨u,rfl,by simpa using this⟩
theorem cells_int:Try.prog.cellsOf 3=1:=by kernel_rfl
theorem open_num {fuel:Nat} {u:Value} {x:DataW H×List MemPlace} (h:DataW.trod enc Try.prog W base sp held fuel 3 [u]=some x):∃ q:Int,u=.int .i64 q∧(Lit.int .i64 q).wf=true:=by
 obtain ⟨q,hq,_,hw⟩:=DataW.trod_int Try.underlying3 h
 exact ⟨q,by simpa using hq,hw⟩
theorem open_row {t e:TypeId} (ht:Try.prog.underlying t=some (.slice e)) (he:Try.prog.cellsOf e=1) {fuel:Nat} {v:Value} {x:DataW H×List MemPlace} (h:DataW.trod enc Try.prog W base sp held fuel t [v]=some x) :
  ∃ (a:Option Addr) (len cap:Nat),v=.slice a len cap∧(len≤cap∧cap≤maxLen)∧∀ i,i < len→∃ (b off:Nat) (u:Value) (n:Nat) (y:DataW H×List MemPlace),a=some ⟨b,off,none⟩∧W.cell? ⟨b,off+i,none⟩=some u∧DataW.trod enc Try.prog W base sp held n e [u]=some y:=by
 rcases open_slice ht h with ⟨hcs,_⟩ | ⟨a,len,cap,m,n,D,Pl,hcs,_,hl,hm,hmm,_,hi⟩
 ·exact ⟨none,0,0,by simpa using hcs,⟨Nat.zero_le _,Nat.zero_le _⟩,fun i hi=>absurd hi (Nat.not_lt_zero _)⟩
 ·obtain rfl:v=.slice (some a) len cap:=by simpa using hcs
  have hlm:len≤m:=by rw [hmm];split<;>omega
  refine ⟨some a,len,cap,rfl,⟨hl,hm⟩,fun i hil=>?_⟩
  clear hm
  obtain ⟨cs0,hc0,_⟩:=hi 0 (by omega)
  rw [he] at hc0
  obtain ⟨u0,_,hcell0⟩:=cells_one hc0
  have hs:a.spot=none:=by
   have e0:a.add (0*1)=a:=by simp [Addr.add]
   rw [e0] at hcell0
   exact spot_none hcell0
  obtain ⟨cs1,hc1,ht1⟩:=hi i (by omega)
  rw [he] at hc1
  obtain ⟨u,rfl,hcell⟩:=cells_one hc1
  rw [addr_add a _ hs,Nat.mul_one] at hcell
  refine ⟨a.block,a.off,u,n,_,?_,hcell,ht1⟩
  obtain ⟨b,o,s⟩:=a
  simp only at hs
  rw [hs]
theorem open_nums {fuel:Nat} {v:Value} {x:DataW H×List MemPlace} (h:DataW.trod enc Try.prog W base sp held fuel 22 [v]=some x):∃ l:List Int,IntsV W v l∧Fit v∧l.length≤maxLen:=by
 obtain ⟨a,len,cap,rfl,hlen,hi⟩:=open_row Try.underlying22 cells_int h
 have hex:∀ i,∃ q:Int,i < len→(Lit.int .i64 q).wf=true∧∃ b off,a=some ⟨b,off,none⟩∧W.cell? ⟨b,off+i,none⟩=some (.int .i64 q):=fun i=>by
  by_cases hil:i < len
  ·obtain ⟨b,off,u,n,y,ha,hc,ht⟩:=hi i hil
   obtain ⟨q,rfl,hw⟩:=open_num ht
   exact ⟨q,fun _=>⟨hw,b,off,ha,hc⟩⟩
  ·exact ⟨0,fun h=>absurd h hil⟩
 refine ⟨(List.range len).map fun i=>(hex i).choose,⟨a,cap,by simp,fun i c hic=>?_⟩,(fun a' n' c' e=>by cases e;exact hlen),by simpa using Nat.le_trans hlen.1 hlen.2⟩
 have hil:i < len:=by simpa using (List.getElem?_eq_some_iff.1 hic).1
 rw [List.getElem?_map,List.getElem?_range hil,Option.map_some] at hic
 rw [← Option.some.inj hic]
 exact (hex i).choose_spec hil
end
end Go.Proofs.Ytiaeagpepfmfgaa
namespace Go.Proofs.Ytiaeagpepfmfgaa
open Go.ChangeShapes Go.WideShapes Go.ChangeAt Go.RowKit Go.Deep Go.Maps
set_option linter.unusedSimpArgs false
set_option linter.unusedVariables false
section
variable {H:Type} {enc:TypeId×Value→H} {W:World} {base:Nat} {sp:Nat→Bool} {held:Bool}
theorem open_str {fuel:Nat} {u:Value} {x:DataW H×List MemPlace} (h:DataW.trod enc Try.prog W base sp held fuel 9 [u]=some x):∃ s:ByteArray,u=.string s∧s.size≤maxLen:=by
 obtain ⟨s,h1,_,h3⟩:=DataW.trod_string Try.underlying9 h
 exact ⟨s,by simpa using h1,h3⟩
end
theorem run_cases (d:Df) (n:Int) (c av:List Int):(∃ k,k≠0∧runP d n c av=((0,blankP),0,k)∧((opS CS.new d).flt=none→k=2∧av.length≠d.params.length∨k=12∧av.length=d.params.length))∨
  ((opS CS.new d).flt=none∧av.length=d.params.length∧runP d n c av=((n,(pgB d.body ⟨c,mP d.params av⟩).c),(exVs (pgB d.body ⟨c,mP d.params av⟩).c (pgB d.body ⟨c,mP d.params av⟩).m d.give).getD 0 0,0)):=by
 unfold runP
 cases hf:(opS CS.new d).flt with
 | some x=>exact .inl ⟨13,by decide,by rw [if_pos (show (some x).isSome=true from rfl)],fun h=>by cases h⟩
 | none=>
  rw [if_neg (show ¬ (none:Option (Int×Int)).isSome=true by decide)]
  by_cases hl:av.length≠d.params.length
  ·exact .inl ⟨2,by decide,by rw [if_pos hl],fun _=>.inl ⟨rfl,hl⟩⟩
  ·rw [if_neg hl]
   by_cases hn:(exVs c (mP d.params av) d.needs).any (fun v=>v == 0)=true
   ·exact .inl ⟨12,by decide,by rw [if_pos hn],fun _=>.inr ⟨rfl,by simpa using hl⟩⟩
   ·exact .inr ⟨rfl,by simpa using hl,by rw [if_neg hn]⟩
end Go.Proofs.Ytiaeagpepfmfgaa
namespace Go.Proofs.Ytiaeagpepfmfgaa
open Go.RowKit Go.Maps
set_option linter.unusedSimpArgs false
set_option linter.unusedVariables false
theorem num_nil (w:World):Calls Try.prog 14 #[.nilIface] w fun e w'=>e=.returned (.int .i64 0)∧w=w':=by
 go_enter Try.func14,Try.ntmps14
 go_wp2
 go_ret
 exact ⟨rfl,rfl⟩
theorem assert_err (n:Int) (w:World):(Instr.typeAssert (err n) 38 50 true).run Try.prog w=.ok (.tuple #[.int .i64 n,.bool true]) w:=by kernel_rfl
set_option maxRecDepth 100000 in
theorem num_err (n:Int) (w:World) (hn:n≠0):Calls Try.prog 14 #[err n] w fun e w'=>e=.returned (.int .i64 n)∧w=w':=by
 have h0:(n == 0)=false:=by simpa using hn
 have q:=assert_err n w
 go_enter Try.func14,Try.ntmps14
 go_wp2
 go_ret
 exact ⟨rfl,rfl⟩
section
variable {w:World} {ops:Array Oper} {rest:List Oper} {o:Oper} {a:Act} {Q:Exit→Act→World→Prop}
end
def CopyB (w:World) (g:Nat) (l:Sec):Prop:=∃ cur:Array Value,w.heap[g]?=some (.cells cur 5 (0,0))∧cur.size=l.length+2∧cur.toList=(l.map fun c=>Value.int .u8 c.toNat)++[.int .u8 165,.int .u8 90]
theorem CopyB.bytes {w:World} {g:Nat} {l:Sec} (h:CopyB w g l):Bytes w (.slice (some ⟨g,0,none⟩) l.length (l.length+2)) l:=by
 obtain ⟨cur,hg,hs,hl⟩:=h
 refine ⟨_,_,rfl,fun i c hi=>⟨g,0,rfl,?_⟩⟩
 have hlt:=(List.getElem?_eq_some_iff.1 hi).1
 rw [Nat.zero_add,cell_at i hg,← Array.getElem?_toList,hl,List.getElem?_append_left (by simpa using hlt),List.getElem?_map,hi]
 rfl
theorem CopyB.kept {w w':World} {S:List Nat} {g:Nat} {l:Sec} (h:CopyB w g l) (ho:Only S w w') (hg:g∉S):CopyB w' g l:=by
 obtain ⟨cur,h1,r⟩:=h
 exact ⟨cur,ho.heap h1 hg,r⟩
theorem CopyB.row {w:World} {g:Nat} {l:Sec} (h:CopyB w g l) (hl:l.length+2≤maxLen):Row w (.slice (some ⟨g,0,none⟩) l.length (l.length+2)) l.length:=by
 have hb:=h.bytes
 obtain ⟨cur,hg,hs,hl'⟩:=h
 refine .inr ⟨g,_,cur,rfl,by omega,hl,hg,by omega,fun j hj=>⟨l[j].toNat,?_⟩⟩
 rw [← Array.getElem?_toList,hl',List.getElem?_append_left (by simpa using hj),List.getElem?_map,List.getElem?_eq_getElem hj]
 rfl
set_option maxRecDepth 100000 in
theorem ints_same (v1 v2:Value) (xs:List Int) (w:World) (h1:IntsV w v1 xs) (h2:IntsV w v2 xs) (hlen:xs.length≤4611686018427387904) :
  Calls Try.prog 15 #[v1,v2] w fun e w'=>e=.returned (.bool true)∧Only [] w w':=by
 have H1:=Hd h1
 have H2:=Hd h2
 obtain ⟨a1,c1,rfl,-⟩:=h1
 obtain ⟨a2,c2,rfl,-⟩:=h2
 go_enter Try.func15,Try.ntmps15
 go_wp2_with fail
 go_loopw [5,13] (fun _ i wr=>∃ k:Nat,k≤xs.length∧i=.int .i64 k∧Only [] w wr) (fun _ i _=>xs.length - (intOf i).toNat)
 case atStart=>exact ⟨0,by omega,rfl,Only.refl _ _⟩
 case round=>
  obtain ⟨k,hk,rfl,ho⟩:=hrel
  by_cases hlt:k < xs.length
  ·have hkl:xs[k]?=some xs[k]:=List.getElem?_eq_getElem hlt
   obtain ⟨_,b1,f1,p1,hv1,d1⟩:=(H1.out.kept ho (fun _ _ _ _ _=>by simp)).at_ hkl
   obtain ⟨_,b2,f2,p2,hv2,d2⟩:=(H2.out.kept ho (fun _ _ _ _ _=>by simp)).at_ hkl
   cases hv1
   cases hv2
   have k0:(0:Int)≤(k:Int):=by omega
   have k1:(k:Int) < (xs.length:Int):=by omega
   clear hkl
   go_wp2_with fail
   go_quiet (fail)
   go_wp2_with fail
   go_roundw
   case rel=>exact ⟨k+1,by omega,by go_num,⟨ho.os,ho.tape,ho.output,ho.size,ho.block⟩⟩
   case measure=>simp [intOf];omega
  ·obtain rfl:k=xs.length:=by omega
   go_wp2_with fail
   go_ret
   exact ⟨rfl,ho⟩
end Go.Proofs.Ytiaeagpepfmfgaa
