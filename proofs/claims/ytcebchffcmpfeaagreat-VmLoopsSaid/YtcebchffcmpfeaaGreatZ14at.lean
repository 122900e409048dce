import Derived.Test.YtcebchffcmpfeaaGreatZat
namespace Go.Proofs.YtcebchffcmpfeaaGreat
set_option linter.unusedVariables false
set_option linter.unusedSimpArgs false
set_option maxRecDepth 100000
set_option maxHeartbeats 16000000
open Go.RowKit Go.Maps
section
variable {w:World} {o:Oper} {a:Act} {K:Act→World→Prop} {Q:Exit→Act→World→Prop}
theorem eH (x:Operand) (ho:o.op=.load 33 x) (g:Nat) (hx:a.eval x=.pointer (some ⟨g,0,none⟩)) (l:List Int) (hb:PB w g 33 l) (hl:l.length=61)
  (h:K (a.put o.dst (.agg (ivA l))) w):o.wp Tryz.prog a w K Q:=
 wp_load_row _ x ho g hx _ _ _ _ hb Tryz.underlying33 rfl (bN l hl) h
theorem d7 (ps:List (Nat×Operand)) (ho:o.op=.build 33 ps.toArray) (l:List Int) (hl:Tryz.prog.built 33 (ps.map fun x=>(x.1,a.eval x.2))=some (ivA l))
  (h:K (a.put o.dst (.agg (ivA l))) w):o.wp Tryz.prog a w K Q:=by
 have e:(ps.toArray.map fun (i,x)=>(i,a.eval x)).toList=ps.map fun x=>(x.1,a.eval x.2):=by simp
 refine wp_build _ ps.toArray ho (by rw [e,hl];rfl) ?_;rw [e,hl];exact h
theorem fK (x y:Operand) (ho:o.op=.binOp .eql 33 x y 33) (n m:Int) (c d:List Int) (hx:a.eval x=.agg (ivA (n :: c))) (hy:a.eval y=.agg (ivA (m :: d))) (hc:c.length=60) (hd:d.length=60)
  (h:K (a.put o.dst (.bool (decide (n=m) && decide (c=d)))) w):o.wp Tryz.prog a w K Q:=by
 have hrun:(execOp a.eval o).run Tryz.prog w=.ok (.value (.bool (decide (n=m) && decide (c=d)))) w:=by
  simp only [execOp,ho,hx,hy,Sem.run_bind,run_eqGuard_agg w .eql 33 x y _ _ sW,Result.andThen_ok,eql_page n m c d hc hd,Sem.run_pure]
 unfold Oper.wp;rw [hrun];exact h
end
theorem qG (v:Value) (l:List Int) (w:World) (hv:IntsV w v l) (hl:l.length≤9223372036854775807) :
    Calls Tryz.prog 9 #[v] w fun e w'=>e=.returned (.agg (ivA (5 :: iR l 60)))∧Only [] w w':=by
  obtain ⟨a,cap,rfl,-⟩:=id hv;have HV:=Hd hv;clear hv;have HZ:=Hd (vI l)
  go_enter Tryz.func9,Tryz.ntmps9
  have T1:=trivial;have T2:=trivial
  go_wp2_with (first
    | (clear T1
       refine aJ rfl rfl ?_;intro w1 g1 hb1 hg1 ho1;have HB1:=Hd hb1;have HG1:=Hd hg1;have HO1:=Hd ho1
       clear hb1 hg1 ho1)
    | (refine cr rfl [(0,.const (.int .i64 5))] rfl (5 :: blankP) (vH 5) ?_)
    | (clear T2
       refine aJ rfl rfl ?_;intro w2 g2 hb2 hg2 ho2;have HO2:=Hd (HO1.out.trans ho2 (by simp));have HB1':=Hd (HB1.out.kept ho2 (by simp));have hne:g1≠g2:=by have:=HB1.out.lt;omega
       have HG2:=Hd (Nat.le_trans HO1.out.size hg2);have HB2:=Hd hb2
       clear hb2 hg2 ho2 HB1 HO1)
    | (refine aw rfl _ _ rfl g2 (5 :: blankP) (by rfl) (by rfl) (by rfl) _ HB2.out (by rfl) ?_
       intro w3 hb3 ho3;have ho4:=HO2.out.trans ho3 (by simp;exact HG2.out);have hb4:=HB1'.out.kept ho3 (by simpa using hne);rw [← HZ.out] at hb3
       clear HO2 ho3 HB1' HB2))
  have HG1':w.heap.size≤g2:=HG2.out
  by_cases hnil:l.length=0
  · obtain rfl:l=[]:=List.eq_nil_of_length_eq_zero hnil
    go_loopw [4,6] (fun _ i wr=>∃ k:Nat,k≤60∧i=.int .i64 k∧PB wr g2 33 (5 :: iR [] k)∧PB wr g1 33 (List.replicate 61 0)∧Only [] w wr) (fun _ i _=>60 - (intOf i).toNat)
    case atStart=>exact ⟨0,by omega,rfl,hb3,hb4,ho4⟩
    case round=>
      obtain ⟨k,hk,rfl,hb,hb',ho⟩:=hrel
      by_cases hlt:k < 60
      · rw [rm,← rm (k+1)] at hb
        (go_wp2_with fail);go_roundw
        case rel=>exact ⟨k+1,by omega,by go_num,hb,hb',ho⟩
        case measure=>simp [intOf];omega
      · obtain rfl:k=60:=by omega
        have HO:=Hd ho;clear ho
        go_wp2_with (first
          | (refine aF rfl _ rfl g2 (by rfl) _ hb (by simp [bz]) ?_)
          | (refine aw rfl _ _ rfl g1 (5 :: iR [] 60) (by rfl) (by rfl) (by simp [bz]) _ hb' (by rfl) ?_
             intro w5 hb5 ho5))
        exact bodyPost_ret (iD rfl _ _ g1 _ (by rfl) hb5 (by simp [bz])) rfl ⟨rfl,HO.out.trans ho5 (by simp;exact HG1.out)⟩
  · go_loopw [4,6] (fun _ i wr=>∃ k:Nat,k≤60∧i=.int .i64 k∧PB wr g2 33 (5 :: iR l k)∧PB wr g1 33 (List.replicate 61 0)∧Only [] w wr) (fun _ i _=>60 - (intOf i).toNat)
    case atStart=>exact ⟨0,by omega,rfl,hb3,hb4,ho4⟩
    case round=>
      obtain ⟨k,hk,rfl,hb,hb',ho⟩:=hrel
      by_cases hlt:k < 60
      · have hm:k % l.length < l.length:=Nat.mod_lt _ (by omega)
        obtain ⟨z,hz⟩:∃ z,l[k % l.length]?=some z:=⟨_,List.getElem?_eq_getElem hm⟩
        obtain ⟨-,b,off,cap1,e1,hcell⟩:=(HV.out.kept ho (by intro a n c e h;simp)).at_ hz;cases e1;have hfil:fil l k=z:=by simp [fil,List.getD,hz]
        have bS:=filC_set l k hlt;rw [hfil] at bS;have hc2:∃ v,wr.cell? ⟨g2,1+k,none⟩=some v:=⟨_,hb.cell (z:=(iR l k)[k]'(by rw [bz];omega)) (by rw [Nat.add_comm,List.getElem?_cons_succ,List.getElem?_eq_getElem])⟩
        obtain ⟨v2,hc2⟩:=hc2;have hf2:wr.frozen? ⟨g2,1+k,none⟩=false:=hb.free _;have hb5:PB (wr.setCell ⟨g2,1+k,none⟩ (.int .i64 z)) g2 33 (5 :: iR l (k+1)):=by
          have e:(5 :: iR l k).set (1+k) z=5 :: iR l (k+1):=by rw [Nat.add_comm,List.set_cons_succ,bS]
          rw [← e];exact hb.set (1+k) z
        have ho5:Only [] w (wr.setCell ⟨g2,1+k,none⟩ (.int .i64 z)):=ho.setCell (Or.inr HG1') _;have hb6:PB (wr.setCell ⟨g2,1+k,none⟩ (.int .i64 z)) g1 33 (List.replicate 61 0):=hb'.kept ((Only.refl [g2] wr).setCell (.inl (by simp)) _) (by simpa using hne);have hrem:(k:Int).tmod (l.length:Int)=((k % l.length:Nat):Int):=by rw [Int.ofNat_tmod]
        clear hb hb' ho bS hfil hz;(go_wp2_with fail);go_roundw
        case rel=>exact ⟨k+1,by omega,by go_num,hb5,hb6,ho5⟩
        case measure=>simp [intOf];omega
      · obtain rfl:k=60:=by omega
        have HO:=Hd ho;clear ho
        go_wp2_with (first
          | (refine aF rfl _ rfl g2 (by rfl) _ hb (by simp [bz]) ?_)
          | (refine aw rfl _ _ rfl g1 (5 :: iR l 60) (by rfl) (by rfl) (by simp [bz]) _ hb' (by rfl) ?_
             intro w5 hb5 ho5))
        exact bodyPost_ret (iD rfl _ _ g1 _ (by rfl) hb5 (by simp [bz])) rfl ⟨rfl,HO.out.trans ho5 (by simp;exact HG1.out)⟩
end Go.Proofs.YtcebchffcmpfeaaGreat
