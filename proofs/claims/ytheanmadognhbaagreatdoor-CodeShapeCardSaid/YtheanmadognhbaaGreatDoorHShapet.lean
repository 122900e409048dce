/- Layer 11: whatever text is given, and turned round or not: jumps in an operation's code go forward to places of the code, loops go back to their beginnings, and there are as many locals as are used. -/
import Derived.Test.YtheanmadognhbaaGreatDoorVat
import Derived.Test.YtheanmadognhbaaGreatDoorHjt
import Derived.Test.YtheanmadognhbaaGreatDoorUct
namespace Go.Proofs.YtheanmadognhbaaGreatDoor
set_option linter.unusedVariables false
set_option linter.unusedSimpArgs false
set_option maxRecDepth 100000
set_option maxHeartbeats 16000000
open Go.ChangeShapes Go.WideShapes Go.ChangeAt Go.RowKit Go.Maps
open Go.ChangeMaps (open_string shut_string)
theorem xN (w:World):(binOp .eql 35 (err 13) (err 13)).run Tryz.prog w=.ok (.bool true) w:=by kernel_rfl
theorem xO (w:World):(binOp .neq 35 (err 13) .nilIface).run Tryz.prog w=.ok (.bool true) w:=by kernel_rfl
theorem genD_len {d:Df} (hw:Whole d):(wC d).ins.length≤10000:=by
 unfold wC genC;dsimp only;have h1:=gO (kA (er d) (ei 8 d)) d.needs;have h2:=j7 (kA (er d) (ei 8 d)) d.give;have h3:=(cO (kA (er d) (ei 8 d)) d.body (ca (kA (er d) (ei 8 d)) d.needs).length []).1;have h4:=hw.size;rw [List.length_append,List.length_append];omega
theorem kE (s:ByteArray) (t:Bool) (w:World) (hs:s.size≤maxLen) (ht:Tab w):Calls Tryz.prog 7 #[.string s,.bool t] w fun e w'=>e=.returned (.bool true)∧Only [] w w':=by
 unfold maxLen at hs;have HNC:=Hd xM;have KA:=qd HNC.out w ht;have HP:=Hd (fun W=>ox s t W hs);obtain ⟨R,hR⟩:∃ R,R=pdT (bf s.data.toList) t:=⟨_,rfl⟩
 rw [← hR] at HP;have HOKD:=Hd (show ∀ d,R=some d→DfOk d from fun d h=>ok_pdT (hR.symm.trans h));clear hR ht hs
 go_enter Tryz.func7,Tryz.ntmps7
 go_wp2_with fail
 refine KA.mono ?_;rintro e w1 ⟨rfl,o1⟩;have HO:=Hd o1;have KP:=HP.out w1;clear o1 KA HP;go_wp2_with fail
 refine KP.mono ?_;rintro e w1a ⟨sn1,a11,a21,a31,a41,l11,l21,l31,l41,c11,c21,c31,c41,rfl,hok,o1⟩;replace HO:=Hd (HO.out.trans o1 (by simp));(try replace HDV1:=Hd (HDV1.out.kept o1 (by simp) (fun _ h=>h)));(try replace HDV2:=Hd (HDV2.out.kept o1 (by simp) (fun _ h=>h)));(try replace HA1:=Hd (o1.heap HA1.out (by simp)));(try replace HA2:=Hd (o1.heap HA2.out (by simp)));(try replace HV1:=Hd (HV1.out.quiet o1));(try replace HV2:=Hd (HV2.out.quiet o1));(try replace HU1:=Hd (HU1.out.quiet o1));(try replace HU2:=Hd (HU2.out.quiet o1));(try replace HC1:=Hd (o1.heap HC1.out (by simp)));(try replace HC2:=Hd (o1.heap HC2.out (by simp)));cases R with
 | none=>
  clear hok KP o1;go_wp2_with fail
  go_ret;exact ⟨rfl,HO.out.trans ((Only.refl [] _).alloc _) (by simp)⟩
 | some d1=>
  have HOK1:=Hd (HOKD.out d1 rfl);have HDV1:=Hd (hok d1 rfl);clear KP hok o1 HOKD;go_upto_region 4 with (fail)
  obtain ⟨w2,q9,oA,hA,-⟩:=nb w1a (.cells #[.string sn1,.slice a11 l11 c11,.slice a21 l21 c21,.slice a31 l31 c31,.slice a41 l41 c41] 27);rw [← q9];clear q9;obtain ⟨gd1,hgd⟩:∃ g,g=w1a.heap.size:=⟨_,rfl⟩
  rw [← hgd] at hA⊢;replace HO:=Hd (HO.out.trans oA (by simp));(try replace HDV1:=Hd (HDV1.out.kept oA (by simp) (fun _ h=>h)));(try replace HDV2:=Hd (HDV2.out.kept oA (by simp) (fun _ h=>h)));(try replace HA1:=Hd (oA.heap HA1.out (by simp)));(try replace HA2:=Hd (oA.heap HA2.out (by simp)));(try replace HV1:=Hd (HV1.out.quiet oA));(try replace HV2:=Hd (HV2.out.quiet oA));(try replace HU1:=Hd (HU1.out.quiet oA));(try replace HU2:=Hd (HU2.out.quiet oA));(try replace HC1:=Hd (oA.heap HC1.out (by simp)));(try replace HC2:=Hd (oA.heap HC2.out (by simp)));have HA1:=Hd hA;clear oA hA hgd;have hl11:l11=d1.params.length:=by
   obtain ⟨x1,x2,x3,x4,e,⟨a',c',h1,-⟩,-⟩:=HDV1.out;injection e with _ e
   injection e with e1 _
   rw [h1] at e1;injection e1
  have HL11:=Hd hl11;clear hl11;go_upto_region 6 with (fail)
  have y0:w2.cell? ⟨gd1,0,none⟩=some (.string sn1):=ab 0 HA1.out;have y1:w2.cell? ⟨gd1,1,none⟩=some (.slice a11 l11 c11):=ab 1 HA1.out;have y2:w2.cell? ⟨gd1,2,none⟩=some (.slice a21 l21 c21):=ab 2 HA1.out;have y3:w2.cell? ⟨gd1,3,none⟩=some (.slice a31 l31 c31):=ab 3 HA1.out;have y4:w2.cell? ⟨gd1,4,none⟩=some (.slice a41 l41 c41):=ab 4 HA1.out;have KC:=fO HNC.out HDV1.out HOK1.out;obtain ⟨cd,hco⟩:∃ c,c=fC d1:=⟨_,rfl⟩
  rw [← hco] at KC;obtain ⟨⟨P1,Lo1,is1,ls1⟩,F1⟩:=cd;unfold qZ at KC;dsimp only at KC;obtain ⟨ev1,hev⟩:∃ v,v=errQ F1:=⟨_,rfl⟩
  rw [← hev] at KC;have HCO1:=Hd hco;have HEV1:=Hd hev;clear hco hev;go_wp2_with fail
  refine KC.mono ?_;rintro e w2c ⟨v1,u1,rfl,hv,hu,o1⟩;replace hv:=hv.rv;replace hu:=hu.rv;obtain ⟨va1,vc1,rfl,-⟩:=id hv;obtain ⟨ua1,uc1,rfl,-⟩:=id hu;replace HO:=Hd (HO.out.trans o1 (by simp));(try replace HDV1:=Hd (HDV1.out.kept o1 (by simp) (fun _ h=>h)));(try replace HDV2:=Hd (HDV2.out.kept o1 (by simp) (fun _ h=>h)));(try replace HA1:=Hd (o1.heap HA1.out (by simp)));(try replace HA2:=Hd (o1.heap HA2.out (by simp)));(try replace HV1:=Hd (HV1.out.quiet o1));(try replace HV2:=Hd (HV2.out.quiet o1));(try replace HU1:=Hd (HU1.out.quiet o1));(try replace HU2:=Hd (HU2.out.quiet o1));(try replace HC1:=Hd (o1.heap HC1.out (by simp)));(try replace HC2:=Hd (o1.heap HC2.out (by simp)));obtain ⟨vn1,hvn⟩:∃ n,n=is1.length:=⟨_,rfl⟩
  obtain ⟨un1,hun⟩:∃ n,n=ls1.length:=⟨_,rfl⟩
  rw [← hvn] at hv⊢;rw [← hun] at hu⊢;have HV1:=Hd hv;have HU1:=Hd hu;have HVN1:=Hd hvn;have HUN1:=Hd hun;clear KC o1 hv hu hvn hun y0 y1 y2 y3 y4;go_upto_region 7 with (fail)
  obtain ⟨w3,q9,oA,hA,-⟩:=nb w2c (.cells #[.int .i64 P1,.int .i64 Lo1,.slice va1 vn1 vc1,.slice ua1 un1 uc1] 33);rw [← q9];clear q9;obtain ⟨gc1,hgc⟩:∃ g,g=w2c.heap.size:=⟨_,rfl⟩
  rw [← hgc] at hA⊢;replace HO:=Hd (HO.out.trans oA (by simp));(try replace HDV1:=Hd (HDV1.out.kept oA (by simp) (fun _ h=>h)));(try replace HDV2:=Hd (HDV2.out.kept oA (by simp) (fun _ h=>h)));(try replace HA1:=Hd (oA.heap HA1.out (by simp)));(try replace HA2:=Hd (oA.heap HA2.out (by simp)));(try replace HV1:=Hd (HV1.out.quiet oA));(try replace HV2:=Hd (HV2.out.quiet oA));(try replace HU1:=Hd (HU1.out.quiet oA));(try replace HU2:=Hd (HU2.out.quiet oA));(try replace HC1:=Hd (oA.heap HC1.out (by simp)));(try replace HC2:=Hd (oA.heap HC2.out (by simp)));have HC1:=Hd hA;clear oA hA hgc;cases hflt:(opS CS.new d1).flt with
  | some x=>
   have hco:=HCO1.out;unfold fC at hco;rw [hflt,if_pos (show (some x).isSome=true from rfl)] at hco;simp only [Prod.mk.injEq,Cd.mk.injEq] at hco;obtain ⟨⟨rfl,rfl,rfl,rfl⟩,rfl⟩:=hco;obtain rfl:ev1=err 13:=HEV1.out;obtain rfl:vn1=0:=HVN1.out;have q1:=xO;have q2:=xN;have z2:w3.cell? ⟨gc1,2,none⟩=some (.slice va1 0 vc1):=ab 2 HC1.out;clear hflt;(go_wp2_with fail);go_ret;exact ⟨rfl,HO.out⟩
  | none=>
   have hco:=HCO1.out;unfold fC at hco;rw [hflt,if_neg (show ¬ (none:Option (Int×Int)).isSome=true by decide)] at hco;simp only [Prod.mk.injEq] at hco;obtain ⟨hcd,rfl⟩:=hco;obtain rfl:ev1=.nilIface:=HEV1.out;obtain ⟨locs,g1,g2,g3,g4⟩:=genD_ok HOK1.out hflt;have hvb:=genD_len HOK1.out.whole;rw [← hcd] at g1 g2 g4 hvb;dsimp only at g1 g2 g4 hvb;rw [← HVN1.out] at hvb;subst g1;subst g2;rw [← HVN1.out] at g4;have HG:=Hd g4;have q1:=q8;clear hflt hcd g4 HCO1 HEV1;have z2:w3.cell? ⟨gc1,2,none⟩=some (.slice va1 vn1 vc1):=ab 2 HC1.out;(go_wp2_with fail);clear z2 q1
   go_loopw [40] (fun ix wr=>∃ j:Nat,j≤vn1∧ix=.int .i64 (j:Int)∧Hid (Only [] w3 wr)) (fun ix _=>vn1 - (intOf ix).toNat)
   case atStart=>exact ⟨0,Nat.zero_le _,rfl,Hd (Only.refl _ _)⟩
   case round=>
    obtain ⟨j,hjn,rfl,HOj⟩:=hrel
    by_cases hlt:j < vn1
    ·have hlt':(j:Int) < (vn1:Int):=by omega
     have j0:(0:Int)≤(j:Int):=by omega
     obtain ⟨⟨xd,xn⟩,hx⟩:∃ e,is1[j]?=some e:=⟨_,List.getElem?_eq_getElem (by rw [← HVN1.out];exact hlt)⟩
     obtain ⟨gv,ov,rfl,zc⟩:=(HV1.out.quiet HOj.out).at_ hx;have y0:wr.cell? ⟨gv,ov+j*2,none⟩=some (.int .i64 xd):=by have h:wr.cell? ⟨gv,ov+j*2+0,none⟩=_:=zc 0 _ rfl;simpa using h
     have y1:wr.cell? ⟨gv,ov+j*2+1,none⟩=some (.int .i64 xn):=zc 1 _ rfl;have hg:=HG.out j (xd,xn) hx;rw [Nat.zero_add] at hg;obtain ⟨i1,i2,i3⟩:=hg;dsimp only at i1 i2 i3;have HI1:=Hd i1;have HI2:=Hd i2;have HI3:=Hd i3;clear zc hx i1 i2 i3;(go_upto_region 12 with (fail));obtain ⟨w5,q9,oA,hA,-⟩:=nb wr (.cells #[.int .i64 xd,.int .i64 xn] 51);rw [← q9];clear q9;replace HOj:=Hd (HOj.out.trans oA (by simp));have z0:w5.cell? ⟨wr.heap.size,0,none⟩=some (.int .i64 xd):=ab 0 hA;have z1:w5.cell? ⟨wr.heap.size,1,none⟩=some (.int .i64 xn):=ab 1 hA;have c1:w5.cell? ⟨gc1,1,none⟩=some (.int .i64 (locs:Int)):=ab 1 (HOj.out.heap HC1.out (by simp));have c2:w5.cell? ⟨gc1,2,none⟩=some (.slice (some ⟨gv,ov,none⟩) vn1 vc1):=ab 2 (HOj.out.heap HC1.out (by simp));have c3:w5.cell? ⟨gc1,3,none⟩=some (.slice ua1 un1 uc1):=ab 3 (HOj.out.heap HC1.out (by simp));clear oA hA y0 y1
     by_cases h12:xd=12
     ·subst h12;have hb:=HI1.out (.inl rfl);have b1:¬ xn≤(j:Int):=by omega
      have b2:¬ (vn1:Int) < xn:=by omega
      (go_wp2_with fail);refine ⟨⟨j+1,by omega,by simp,HOj⟩,?_⟩;simp [intOf];omega
     ·have e12:(xd == 12)=false:=by simpa using h12
      by_cases h13:xd=13
      ·subst h13;have hb:=HI1.out (.inr rfl);have b1:¬ xn≤(j:Int):=by omega
       have b2:¬ (vn1:Int) < xn:=by omega
       (go_wp2_with fail);refine ⟨⟨j+1,by omega,by simp,HOj⟩,?_⟩;simp [intOf];omega
      ·have e13:(xd == 13)=false:=by simpa using h13
       by_cases h2:xd=2
       ·subst h2;have hb:=HI2.out (.inl rfl);have b1:¬ xn < 0:=by omega
        have b2:¬ (locs:Int)≤xn:=by omega
        (go_wp2_with fail);refine ⟨⟨j+1,by omega,by simp,HOj⟩,?_⟩;simp [intOf];omega
       ·have e2:(xd == 2)=false:=by simpa using h2
        by_cases h3:xd=3
        ·subst h3;have hb:=HI2.out (.inr rfl);have b1:¬ xn < 0:=by omega
         have b2:¬ (locs:Int)≤xn:=by omega
         (go_wp2_with fail);refine ⟨⟨j+1,by omega,by simp,HOj⟩,?_⟩;simp [intOf];omega
        ·have e3:(xd == 3)=false:=by simpa using h3
         by_cases h14:xd=14
         ·subst h14;obtain ⟨n,hn,-,l,hl,el,fl⟩:=HI3.out rfl;subst hn;have hnl:n < un1:=by rw [HUN1.out];exact (List.getElem?_eq_some_iff.1 hl).1
          obtain ⟨gu,ou,rfl,zc⟩:=(HU1.out.quiet HOj.out).at_ hl;have y3:w5.cell? ⟨gu,ou+n*4+3,none⟩=some (.int .i64 (j:Int)):=by rw [← el];exact zc 3 _ rfl
          obtain ⟨lf,hlf⟩:∃ x,x=l.fr:=⟨_,rfl⟩
          have y2:w5.cell? ⟨gu,ou+n*4+2,none⟩=some (.int .i64 lf):=by rw [hlf];exact zc 2 _ rfl
          have b1:¬ (n:Int) < 0:=by omega
          have b0:(0:Int)≤(n:Int):=by omega
          have b2:¬ (un1:Int)≤(n:Int):=by omega
          have b3:(n:Int) < (un1:Int):=by omega
          have b4:¬ (j:Int) < lf:=by omega
          clear zc hl hlf el fl;(go_wp2_with fail);refine ⟨⟨j+1,by omega,by simp,HOj⟩,?_⟩;simp [intOf];omega
         ·have e14:(xd == 14)=false:=by simpa using h14
          (go_wp2_with fail);refine ⟨⟨j+1,by omega,by simp,HOj⟩,?_⟩;simp [intOf];omega
    ·obtain rfl:j=vn1:=by omega
     have HA9:=Hd (HOj.out.heap HA1.out (by simp));have HC9:=Hd (HOj.out.heap HC1.out (by simp));have z0:wr.cell? ⟨gc1,0,none⟩=some (.int .i64 (d1.params.length:Int)):=ab 0 HC9.out;have z1:wr.cell? ⟨gc1,1,none⟩=some (.int .i64 (locs:Int)):=ab 1 HC9.out;have y1:wr.cell? ⟨gd1,1,none⟩=some (.slice a11 l11 c11):=ab 1 HA9.out;rw [← HL11.out] at z0;have b1:(l11:Int)≤(locs:Int):=by have:=HL11.out;omega
     (go_wp2_with fail);go_ret;exact ⟨rfl,HO.out.trans HOj.out (by simp)⟩
theorem iQ (os:Os) (started:os.Started) (H:Type) (enc:TypeId×Value→H) :
  ReturnsInHanded {} Tryz.checked os 7 .any (fun w args=>(Rows.codeShapeSpec.pre enc Tryz.prog Tryz.f7 Rows.codeShapeRow.domain false w args∧laidMet Tryz.prog xf w)∧sizedMet enc Tryz.prog Tryz.f7 (OpenSpec.ofChange Rows.codeShapeSpec) false w args)
   (Rows.codeShapeSpec.post enc Tryz.prog Tryz.f7 false true false false):=by
 refine returnsInHanded_of_change_and (C:=Tryz.checked) (X:=(fun w _=>laidMet Tryz.prog xf w)) (fun _ _ _ hh h=>h.of_heap hh) law_own started (by kernel_rfl) Tryz.func7
  (ChangeSpec.witness_at (enc:=enc) (C:=Tryz.checked) (os:=os) (X:=(fun w _=>laidMet Tryz.prog xf w)) false (laidWorld os) #[.string ⟨#[]⟩,.bool false] 8 rfl (by kernel_rfl) (by kernel_rfl) (by kernel_rfl) (by kernel_rfl) (by kernel_rfl) (mE os _)) ?_
 intro W base args ds gs before hval0 hW hcnd hsz0 hL _;have hE:=nZ hL;have hval:∀ (j:Nat) t v,Tryz.f7.params[j]?=some t→args[j]?=some v→Value.okWide Tryz.prog W .any base t v:=hval0;have hW':=hW;obtain ⟨p,q,hA0,hV,rfl,hfz,hnd⟩:=hW';have hA:DataW.TrodAll enc Tryz.prog W 0 (fun _=>true) true Tryz.f7.params.toList args.toList ds p:=hA0;rw [Tryz.params7] at hA hval;obtain ⟨v0,vs0,d0,ds0,p0,q0,hargs,rfl,rfl,h0,r0⟩:=trodAll_cons hA;obtain ⟨v1,vs1,d1,ds1,p1,q1,rfl,rfl,rfl,h1,r1⟩:=trodAll_cons r0;obtain ⟨rfl,rfl,rfl⟩:=trodAll_nil r1;obtain rfl:args=#[v0,v1]:=by cases args;simp_all
 obtain ⟨rfl,rfl⟩:=trodVars_none hV;obtain ⟨a0,rfl,rfl,rfl,w0⟩:=open_string Tryz.underlying9 (hval 0 9 v0 rfl rfl) h0;obtain ⟨a1,rfl,rfl,rfl⟩:=open_bool Tryz.underlying4 (hval 1 4 v1 rfl rfl) h1;clear hA0 hval0;refine (kE a0 a1  W w0 hE).mono fun e W' ⟨he,hg⟩=>?_;subst he;exact ⟨_,rfl,ry (pa:=([]++([]++[]))) (pv:=[]) hW hg (fun _ _ _=>(trodAll_cons_mk (shut_bool Tryz.underlying4 _) trodAll_mk0)) (fun sp hsp=>(trodAll_cons_mk (shut_string Tryz.underlying9 w0) (trodAll_cons_mk (shut_bool Tryz.underlying4 _) trodAll_mk0))) (fun _ _=>rfl) (by simp) (ok_one (by kernel_rfl) rfl (okWide_bool_mk Tryz.underlying4 _))⟩
theorem kF:Rows.codeShapeRow.holds Tryz.pinned (OpenSpec.ofChange Rows.codeShapeSpec):=
 OpenClaim.holds_of_wide 7 Tryz.f7 rfl rfl rfl rfl rfl rfl rfl ⟨rfl,rfl,rfl,rfl,rfl⟩ rfl rfl rfl rfl rfl (by kernel_rfl) Tryz.func7 (by kernel_rfl)
  (of_decide_eq_true (by kernel_rfl)) (by unfold Func.isWrapper;first | (rw [if_pos (by decide +kernel)];kernel_rfl) | (rw [if_neg (by decide +kernel)];exact ⟨rfl,rfl⟩))
  (fun os started H enc _=>iQ os started H enc)
theorem codeShape_holds:Rows.CodeShapeCardSaid:=
 Claim7.holds_tied_plain_at .later [] [.data,.data,.data] true (true,"15efa5c0b783041a866d390ad58605ebe9e7bd5fb484820fb9a3bda929985d92") true
  kF (fun _ h=>by cases h) (by kernel_rfl) (fun _ h=>by cases h) codeShape_row_tie rfl ⟨rfl,rfl⟩ (by kernel_rfl) rfl
  (fun f fn hf hfn=>by
   obtain rfl:f=7:=Option.some.inj ((show Tryz.prog.funcNamed Rows.codeShapeRow.func=some 7 by kernel_rfl).symm.trans hf) |>.symm;obtain rfl:fn=Tryz.f7:=(Option.some.inj (Tryz.func7.symm.trans hfn)).symm
   exact ⟨by kernel_rfl,fun j t ht=>by
    rw [Tryz.params7] at ht;rcases j with _ | _ | j
    ·obtain rfl:t=9:=by simpa using ht.symm
     exact (show Tryz.prog.wantsStandIn 9=false by kernel_rfl)
    ·obtain rfl:t=4:=by simpa using ht.symm
     exact (show Tryz.prog.wantsStandIn 4=false by kernel_rfl)
    ·simp at ht⟩)
  (by kernel_rfl)
#print axioms codeShape_holds
end Go.Proofs.YtheanmadognhbaaGreatDoor
