import Derived.Test.YtagkbbcpbebapaaZer
import Derived.Test.YtagkbbcpbebapaaG21r
namespace Go.Proofs.Ytagkbbcpbebapaa
open Go.RowKit Go.Maps
set_option linter.unusedSimpArgs false
set_option linter.unusedVariables false
section
variable {w:World} {o:Oper} {a:Act} {K:Act→World→Prop} {Q:Exit→Act→World→Prop}
theorem wp_page_load (x:Operand) (ho:o.op=.load 45 x) (g:Nat) (hx:a.eval x=.pointer (some ⟨g,0,none⟩)) (l:List Int) (hb:PB w g 45 l) (hl:l.length=61)
  (h:K (a.put o.dst (.agg (ivA l))) w):o.wp Try.prog a w K Q:=
 wp_load_row _ x ho g hx _ _ _ _ hb Try.underlying45 rfl (size_page l hl) h
theorem wp_page_eql (x y:Operand) (ho:o.op=.binOp .eql 45 x y 45) (n m:Int) (c d:List Int) (hx:a.eval x=.agg (ivA (n :: c))) (hy:a.eval y=.agg (ivA (m :: d))) (hc:c.length=60) (hd:d.length=60)
  (h:K (a.put o.dst (.bool (decide (n=m) && decide (c=d)))) w):o.wp Try.prog a w K Q:=by
 have hrun:(execOp a.eval o).run Try.prog w=.ok (.value (.bool (decide (n=m) && decide (c=d)))) w:=by
  simp only [execOp,ho,hx,hy,Sem.run_bind,run_eqGuard_agg w .eql 45 x y _ _ guard_page,Result.andThen_ok,eql_page n m c d hc hd,Sem.run_pure]
 unfold Oper.wp
 rw [hrun]
 exact h
theorem wp_page_neq (x y:Operand) (ho:o.op=.binOp .neq 45 x y 45) (n m:Int) (c d:List Int) (hx:a.eval x=.agg (ivA (n :: c))) (hy:a.eval y=.agg (ivA (m :: d))) (hc:c.length=60) (hd:d.length=60)
  (h:K (a.put o.dst (.bool (!(decide (n=m) && decide (c=d))))) w):o.wp Try.prog a w K Q:=by
 have hrun:(execOp a.eval o).run Try.prog w=.ok (.value (.bool (!(decide (n=m) && decide (c=d))))) w:=by
  simp only [execOp,ho,hx,hy,Sem.run_bind,run_eqGuard_agg w .neq 45 x y _ _ guard_page,Result.andThen_ok,neq_page n m c d hc hd,Sem.run_pure]
 unfold Oper.wp
 rw [hrun]
 exact h
end
set_option maxRecDepth 100000 in
theorem filled9_any (v:Value) (l:List Int) (w:World) (hv:IntsV w v l) (hl:l.length≤9223372036854775807) :
    Calls Try.prog 15 #[v] w fun e w'=>e=.returned (.agg (ivA (5 :: filC l 60)))∧Only [] w w':=by
  obtain ⟨a,cap,rfl,-⟩:=id hv
  have HV:=Hd hv
  clear hv
  have HZ:=Hd (filC_zero l)
  go_enter Try.func15,Try.ntmps15
  have T1:=trivial
  have T2:=trivial
  go_wp2_with (first
    | (clear T1
       refine wpList_new_page rfl rfl ?_
       intro w1 g1 hb1 hg1 ho1
       have HB1:=Hd hb1
       have HG1:=Hd hg1
       have HO1:=Hd ho1
       clear hb1 hg1 ho1)
    | (refine wpList_built rfl [(0,.const (.int .i64 5))] rfl (5 :: blankP) (built_num 5) ?_)
    | (clear T2
       refine wpList_new_page rfl rfl ?_
       intro w2 g2 hb2 hg2 ho2
       have HO2:=Hd (HO1.out.trans ho2 (by simp))
       have HB1':=Hd (HB1.out.kept ho2 (by simp))
       have hne:g1≠g2:=by have:=HB1.out.lt;omega
       have HG2:=Hd (Nat.le_trans HO1.out.size hg2)
       have HB2:=Hd hb2
       clear hb2 hg2 ho2 HB1 HO1)
    | (refine wpList_store_page rfl _ _ rfl g2 (5 :: blankP) (by rfl) (by rfl) (by rfl) _ HB2.out (by rfl) ?_
       intro w3 hb3 ho3
       have ho4:=HO2.out.trans ho3 (by simp;exact HG2.out)
       have hb4:=HB1'.out.kept ho3 (by simpa using hne)
       rw [← HZ.out] at hb3
       clear HO2 ho3 HB1' HB2))
  have HG1':w.heap.size≤g2:=HG2.out
  by_cases hnil:l.length=0
  · obtain rfl:l=[]:=List.eq_nil_of_length_eq_zero hnil
    go_loopw [4,6] (fun _ i wr=>∃ k:Nat,k≤60∧i=.int .i64 k∧PB wr g2 45 (5 :: filC [] k)∧PB wr g1 45 (List.replicate 61 0)∧Only [] w wr) (fun _ i _=>60 - (intOf i).toNat)
    case atStart=>exact ⟨0,by omega,rfl,hb3,hb4,ho4⟩
    case round=>
      obtain ⟨k,hk,rfl,hb,hb',ho⟩:=hrel
      by_cases hlt:k < 60
      · rw [filC_nil,← filC_nil (k+1)] at hb
        go_wp2_with fail
        go_roundw
        case rel=>exact ⟨k+1,by omega,by go_num,hb,hb',ho⟩
        case measure=>simp [intOf];omega
      · obtain rfl:k=60:=by omega
        have HO:=Hd ho
        clear ho
        go_wp2_with (first
          | (refine wpList_load_page rfl _ rfl g2 (by rfl) _ hb (by simp [filC_length]) ?_)
          | (refine wpList_store_page rfl _ _ rfl g1 (5 :: filC [] 60) (by rfl) (by rfl) (by simp [filC_length]) _ hb' (by rfl) ?_
             intro w5 hb5 ho5))
        exact bodyPost_ret (results_page rfl _ _ g1 _ (by rfl) hb5 (by simp [filC_length])) rfl ⟨rfl,HO.out.trans ho5 (by simp;exact HG1.out)⟩
  · go_loopw [4,6] (fun _ i wr=>∃ k:Nat,k≤60∧i=.int .i64 k∧PB wr g2 45 (5 :: filC l k)∧PB wr g1 45 (List.replicate 61 0)∧Only [] w wr) (fun _ i _=>60 - (intOf i).toNat)
    case atStart=>exact ⟨0,by omega,rfl,hb3,hb4,ho4⟩
    case round=>
      obtain ⟨k,hk,rfl,hb,hb',ho⟩:=hrel
      by_cases hlt:k < 60
      · have hm:k % l.length < l.length:=Nat.mod_lt _ (by omega)
        obtain ⟨z,hz⟩:∃ z,l[k % l.length]?=some z:=⟨_,List.getElem?_eq_getElem hm⟩
        obtain ⟨-,b,off,cap1,e1,hcell⟩:=(HV.out.kept ho (by intro a n c e h;simp)).at_ hz
        cases e1
        have hfil:fil l k=z:=by simp [fil,List.getD,hz]
        have hset:=filC_set l k hlt
        rw [hfil] at hset
        have hc2:∃ v,wr.cell? ⟨g2,1+k,none⟩=some v:=⟨_,hb.cell (z:=(filC l k)[k]'(by rw [filC_length];omega)) (by rw [Nat.add_comm,List.getElem?_cons_succ,List.getElem?_eq_getElem])⟩
        obtain ⟨v2,hc2⟩:=hc2
        have hf2:wr.frozen? ⟨g2,1+k,none⟩=false:=hb.free _
        have hb5:PB (wr.setCell ⟨g2,1+k,none⟩ (.int .i64 z)) g2 45 (5 :: filC l (k+1)):=by
          have e:(5 :: filC l k).set (1+k) z=5 :: filC l (k+1):=by rw [Nat.add_comm,List.set_cons_succ,hset]
          rw [← e]
          exact hb.set (1+k) z
        have ho5:Only [] w (wr.setCell ⟨g2,1+k,none⟩ (.int .i64 z)):=ho.setCell (Or.inr HG1') _
        have hb6:PB (wr.setCell ⟨g2,1+k,none⟩ (.int .i64 z)) g1 45 (List.replicate 61 0):=hb'.kept ((Only.refl [g2] wr).setCell (.inl (by simp)) _) (by simpa using hne)
        have hrem:(k:Int).tmod (l.length:Int)=((k % l.length:Nat):Int):=by rw [Int.ofNat_tmod]
        clear hb hb' ho hset hfil hz
        go_wp2_with fail
        go_roundw
        case rel=>exact ⟨k+1,by omega,by go_num,hb5,hb6,ho5⟩
        case measure=>simp [intOf];omega
      · obtain rfl:k=60:=by omega
        have HO:=Hd ho
        clear ho
        go_wp2_with (first
          | (refine wpList_load_page rfl _ rfl g2 (by rfl) _ hb (by simp [filC_length]) ?_)
          | (refine wpList_store_page rfl _ _ rfl g1 (5 :: filC l 60) (by rfl) (by rfl) (by simp [filC_length]) _ hb' (by rfl) ?_
             intro w5 hb5 ho5))
        exact bodyPost_ret (results_page rfl _ _ g1 _ (by rfl) hb5 (by simp [filC_length])) rfl ⟨rfl,HO.out.trans ho5 (by simp;exact HG1.out)⟩
theorem wf_n64 {z:Int} (h:(Lit.int .i64 z).wf=true):n64 z:=by
 simp only [Lit.wf,Bool.and_eq_true,decide_eq_true_eq] at h
 exact h
theorem cw_fil {l:List Int} (h:∀ z∈l,n64 z) (k:Nat):CW (filC l k):=⟨filC_length l k,fun z hz=>filC_in h k z hz⟩
theorem ints_n64 {w:World} {v:Value} {l:List Int} (h:IntsV w v l):∀ z∈l,n64 z:=by
 intro z hz
 obtain ⟨i,hi⟩:=List.mem_iff_getElem?.1 hz
 obtain ⟨a,cap,rfl,hx⟩:=h
 exact wf_n64 (hx i z hi).1
end Go.Proofs.Ytagkbbcpbebapaa
namespace Go.Proofs.Ytagkbbcpbebapaa
open Go.RowKit Go.Maps
set_option linter.unusedSimpArgs false
set_option linter.unusedVariables false
theorem errV0:errV 0=.nilIface:=rfl
theorem nil_nil9 (w:World):(binOp .eql 31 .nilIface .nilIface).run Try.prog w=.ok (.bool true) w:=by kernel_rfl
end Go.Proofs.Ytagkbbcpbebapaa
