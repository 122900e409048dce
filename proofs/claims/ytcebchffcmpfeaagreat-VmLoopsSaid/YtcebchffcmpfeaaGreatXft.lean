import Derived.Test.YtcebchffcmpfeaaGreatX19t
namespace Go.Proofs.YtcebchffcmpfeaaGreat
set_option linter.unusedVariables false
set_option linter.unusedSimpArgs false
set_option maxRecDepth 100000
set_option maxHeartbeats 16000000
open Go.RowKit Go.Maps
def j6 (q:Int) (c:Cd) (pg args:List Int):List Int×Int×Value:=
 if em c=false then (0 :: blankP,0,err 13) else if (args.length:Int)≠c.params then (0 :: blankP,0,err 2)
 else if (oY c pg args).2 then (q :: (oY c pg args).1.pg,(oY c pg args).1.gv,.nilIface) else (0 :: blankP,0,err 12)
def qt (c:Cd) (pg args:List Int):Int×Value:=
 if em c=false then (0,err 13) else if (args.length:Int)≠c.params then (0,err 2) else ((oY c pg args).1.n,.nilIface)
theorem tD (q:Int) (f:Fin 60→Int) (x0 x1 x2 x3:Value):Tryz.prog.built 70 [(0,.agg (ivA (q :: List.ofFn f))),(1,.agg #[x0,x1,x2,x3])]=some (dy q (List.ofFn f) [x0,x1,x2,x3] (List.replicate 64 0) [.slice none 0 0,.int .i64 0,.int .i64 0,.int .i64 0]).toArray:=by kernel_rfl
theorem mA (q:Int) {c:List Int} (hc:c.length=60) (x0 x1 x2 x3:Value):Tryz.prog.built 70 [(0,.agg (ivA (q :: c))),(1,.agg #[x0,x1,x2,x3])]=some (dy q c [x0,x1,x2,x3] (List.replicate 64 0) [.slice none 0 0,.int .i64 0,.int .i64 0,.int .i64 0]).toArray:=by
 have h:=tD q (fun i=>c[i.1]'(by omega)) x0 x1 x2 x3
 have e:(List.ofFn fun i:Fin 60=>c[i.1]'(by omega))=c:=by
  apply List.ext_getElem (by rw [List.length_ofFn,hc]);intro i h1 h2;rw [List.getElem_ofFn]
 rw [e] at h;exact h
theorem ol:(Tryz.prog.info? 3).map (·.size)=some 1:=by kernel_rfl
section
variable {w:World} {ops:Array Oper} {rest:List Oper} {o:Oper} {a:Act} {Q:Exit→Act→World→Prop}
theorem fl (hg:o.guard=none) (x y:Operand) (ho:o.op=.build 70 #[(0,x),(1,y)]) (q:Int) {c:List Int} (hc:c.length=60) (x0 x1 x2 x3:Value) (hx:a.eval x=.agg (ivA (q :: c))) (hy:a.eval y=.agg #[x0,x1,x2,x3])
  (h:wpList Tryz.prog ops Q rest (a.put o.dst (.agg (dy q c [x0,x1,x2,x3] (List.replicate 64 0) [.slice none 0 0,.int .i64 0,.int .i64 0,.int .i64 0]).toArray)) w):wpList Tryz.prog ops Q (o :: rest) a w:=by
 have hl:=mA q hc x0 x1 x2 x3;have e:((#[(0,x),(1,y)]:Array (Nat×Operand)).map fun (i,x)=>(i,a.eval x)).toList=[(0,a.eval x),(1,a.eval y)]:=by simp
 refine wpList_build hg _ _ ho (by rw [e,hx,hy,hl];rfl) ?_;rw [e,hx,hy,hl];exact h
theorem gM (hg:o.guard=none) (x:Operand) (hop:o.op=.box 70 x) (r:Array Value) (hx:a.eval x=.agg r)
  (h:∀ w' g,w'.heap[g]?=some (.cells r 70 (0,0))→w.heap.size≤g→Only [] w w'→wpList Tryz.prog ops Q rest (a.put o.dst (.pointer (some ⟨g,0,none⟩))) w'):wpList Tryz.prog ops Q (o :: rest) a w:=by
 refine gV hg (.pointer (some ⟨w.heap.size,0,none⟩)) ?_ (h (w.alloc (.cells r 70)) _ (ag w _) (Nat.le_refl _) ((Only.refl [] w).alloc _));simp [execOp,hop,hx,Instr.box,newVar,newRow,newObj,Value.cells,Result.andThen];rfl
theorem iU (hgd:o.guard=none) (d s:Operand) (ho:o.op=.call {callee:=.builtin .copy,args:=#[d,s],argTypes:=#[26,26] }) (q:Int) {pg args:List Int} {k t:List Value} (h1:pg.length=60) (h2:k.length=4) (hl:args.length≤64)
  (g:Nat) (hg:w.heap[g]?=some (.cells (dy q pg k (List.replicate 64 0) t).toArray 70 (0,0))) (hd:a.eval d=.slice (some ⟨g,65,none⟩) 64 64) (aa:Option Addr) (La ca:Nat) (hs:a.eval s=.slice aa La ca) (hv:RV rZ w (.slice aa La ca) args)
  (h:∀ w',w'.heap[g]?=some (.cells (dy q pg k (args++List.replicate (64 - args.length) 0) t).toArray 70 (0,0))→Only [g] w w'→wpList Tryz.prog ops Q rest (a.put o.dst (goInt args.length)) w'):wpList Tryz.prog ops Q (o :: rest) a w:=by
 have hL:=hv.len_
 by_cases h0:args.length=0
 ·obtain rfl:args=[]:=List.eq_nil_of_length_eq_zero h0;rw [show La=0 from hL] at hs;refine wpList_copy_nothing hgd d s 26 26 ho 3 Tryz.underlying26 ol _ aa 64 64 0 ca hd hs (Nat.zero_min _) ?_;exact h w (by simpa using hg) (Only.refl _ _)
 ·obtain ⟨b,o0,rfl,hc⟩:=hv.at_ (i:=0) (List.getElem?_eq_getElem (by omega));have hadd:∀ j,(⟨b,o0,none⟩:Addr).add j=⟨b,o0+j,none⟩:=fun j=>by unfold Addr.add;split<;>simp_all
  have hmin:Nat.min La 64=args.length:=by rw [hL];exact Nat.min_eq_left hl
  have e:(iv (q :: pg)).length=61:=by rw [aB,List.length_cons,h1]
  have e1:(iv args).length=args.length:=aB _;have e3:(iv (List.replicate 64 0)).length=64:=by rw [aB,List.length_replicate]
  refine wpList_copy_own hgd d s 26 26 ho 3 Tryz.underlying26 ol g 65 64 64 ⟨b,o0,none⟩ La ca hd hs _ _ hg (iv args) (by rw [hmin,e1]) ?_ (by
   unfold dy;simp only [List.size_toArray,List.length_append,e,e1,e3,h2]
   omega) ?_ ?_
  ·intro j u hj;rw [hadd];obtain ⟨z,hz,rfl⟩:=List.getElem?_map .. ▸ hj |> Option.map_eq_some_iff.1;obtain ⟨b',o',e1,hcell⟩:=hv.at_ hz;injection e1 with e1
   injection e1 with e1 e2 _
   subst e1 e2;have:=hcell 0 _ rfl;simpa [rZ] using this
  ·intro u hu;obtain ⟨z,-,rfl⟩:=List.mem_map.1 hu;rfl
  ·have er:((dy q pg k (List.replicate 64 0) t).toArray.toList.take 65++(iv args++(dy q pg k (List.replicate 64 0) t).toArray.toList.drop (65+(iv args).length)))=dy q pg k (args++List.replicate (64 - args.length) 0) t:=by
    have d1:List.take 65 (dy q pg k (List.replicate 64 0) t)=iv (q :: pg)++k:=by
     unfold dy;rw [← List.append_assoc,List.take_append_of_le_length (by rw [List.length_append,e,h2];omega),List.take_of_length_le (by rw [List.length_append,e,h2];omega)]
    have d2:List.drop (65+args.length) (dy q pg k (List.replicate 64 0) t)=iv (List.replicate (64 - args.length) 0)++t:=by
     unfold dy;rw [← List.append_assoc,List.drop_append,List.drop_of_length_le (by rw [List.length_append,e,h2];omega),List.nil_append,List.length_append,e,h2,show 65+args.length - (61+4)=args.length by omega,List.drop_append_of_le_length (by rw [e3];exact hl)];congr 1;show List.drop args.length (List.map (Value.int .i64) (List.replicate 64 0))=List.map (Value.int .i64) (List.replicate (64 - args.length) 0);rw [← List.map_drop,List.drop_replicate]
    rw [e1];show List.take 65 (dy q pg k (List.replicate 64 0) t)++(iv args++List.drop (65+args.length) (dy q pg k (List.replicate 64 0) t))=_;rw [d1,d2];unfold dy;simp [iv]
   rw [er,e1];exact h _ (iX _ hg) ((Only.refl _ _).setRow (by simp) _)
end
def StP (w:World) (q:Int) (c:Cd) (pg args:List Int) (a1:Option Addr) (n1 c1:Nat) (a2:Option Addr) (n2 c2:Nat) (e:Ending) (w':World):Prop:=
 Only [] w w'∧(em c=false→e=.returned (.tuple #[.pointer none,err 13]))∧(em c=true→(args.length:Int)≠c.params→e=.returned (.tuple #[.pointer none,err 2]))∧
  (em c=true→(args.length:Int)=c.params→∃ g,e=.returned (.tuple #[.pointer (some ⟨g,0,none⟩),.nilIface])∧MV w w' g q c a1 n1 c1 a2 n2 c2 (inM pg args) (.slice none 0 0))
theorem jb (n:Int) (w:World):(binOp .neq 36 (err n) .nilIface).run Tryz.prog w=.ok (.bool true) w:=by kernel_rfl
theorem jc (w:World):(binOp .neq 36 .nilIface .nilIface).run Tryz.prog w=.ok (.bool false) w:=by kernel_rfl
section
variable {w:World} {q:Int} {c:Cd} {pg args:List Int} {a1 a2 aa:Option Addr} {n1 c1 n2 c2 La ca:Nat}
theorem j7 (h:CV w c a1 n1 c1 a2 n2 c2) (hp:CW pg) (hv:RV rZ w (.slice aa La ca) args) (hL:La≤9223372036854775807) :
    Calls Tryz.prog 20 #[.agg #[.int .i64 c.params,.int .i64 c.locals,.slice a1 n1 c1,.slice a2 n2 c2],.agg (ivA (q :: pg)),.slice aa La ca] w (StP w q c pg args a1 n1 c1 a2 n2 c2):=by
  have hel:=hv.len_;have KC:=fun W (ho:Only [] w W)=>fa (h.quiet ho);have h60:=hp.len;have hpl:=fun (hg:em c=true)=>(rF hg).1.fit.2.1;have HH:=Hd h;have HP:=Hd hp;have HV:=Hd hv;have HEL:=Hd hel;have HPL:=Hd hpl;obtain ⟨P,hP⟩:∃ P,P=c.params:=⟨_,rfl⟩
  obtain ⟨L,hLo⟩:∃ P,P=c.locals:=⟨_,rfl⟩
  rw [← hP,← hLo] at KC;rw [← hP,← hLo];have HPL2:=Hd (And.intro hP hLo);have HKC:=Hd KC;clear h hp hv hel KC hpl hP hLo
  go_enter Tryz.func20,Tryz.ntmps20
  have hA:=ag w (.cells #[.int .i64 P,.int .i64 L,.slice a1 n1 c1,.slice a2 n2 c2] 25);have oA:Only [] w (w.alloc (.cells #[.int .i64 P,.int .i64 L,.slice a1 n1 c1,.slice a2 n2 c2] 25)):=(Only.refl _ _).alloc _;have HA:=Hd hA;have HOA:=Hd oA;clear hA oA;obtain ⟨g1,hg1⟩:∃ g,g=w.heap.size:=⟨_,rfl⟩
  rw [← hg1] at HA;go_upto_region 1 with (refine bw rfl _ rfl (q :: pg) (by rfl) ?_;intro w2 g2 hb2 hg2 ho2;have HB2:=Hd hb2;have HO2:=Hd (HOA.out.trans ho2 (by simp));have HA2:=Hd (ho2.heap HA.out (by simp));clear hb2 hg2 ho2)
  rw [← hg1];have k0:w2.cell? ⟨g1,0,none⟩=some (.int .i64 P):=ab 0 HA2.out;have k1:w2.cell? ⟨g1,1,none⟩=some (.int .i64 L):=ab 1 HA2.out;have k2:w2.cell? ⟨g1,2,none⟩=some (.slice a1 n1 c1):=ab 2 HA2.out;have k3:w2.cell? ⟨g1,3,none⟩=some (.slice a2 n2 c2):=ab 3 HA2.out;have KC:=HKC.out w2 HO2.out;clear HA HOA hg1 HKC;go_wp2_with fail
  refine KC.mono ?_;rintro e w3 ⟨rfl,o3⟩;have HO3:=Hd (HO2.out.trans o3 (by simp));have HA3:=Hd (o3.heap HA2.out (by simp));have HB3:=Hd (HB2.out.kept o3 (by simp));clear KC o3 k0 k1 k2 k3 HA2 HB2 HO2;have hno:=jc;have her:=jb;cases hg:em c with
  | false=>
    rw [show tB c=err 13 by unfold tB;rw [hg];rfl];have HGD:=Hd hg;clear hg;go_wp2_with fail
    go_ret2
    exact ⟨HO3.out,fun _=>rfl,fun h=>(by rw [HGD.out] at h;cases h),fun h=>(by rw [HGD.out] at h;cases h)⟩
  | true=>
    rw [show tB c=.nilIface by unfold tB;rw [hg];rfl];have HGD:=Hd hg;have hp8:=HPL.out hg;clear hg;have k0:w3.cell? ⟨g1,0,none⟩=some (.int .i64 P):=ab 0 HA3.out
    by_cases hq:(La:Int)=P
    · have HQ:=Hd (show (args.length:Int)=c.params by rw [← HEL.out,hq,HPL2.out.1])
      have hl8:args.length≤64:=by have:=HQ.out;omega
      have k1:w3.cell? ⟨g1,1,none⟩=some (.int .i64 L):=ab 1 HA3.out;have k2:w3.cell? ⟨g1,2,none⟩=some (.slice a1 n1 c1):=ab 2 HA3.out;have k3:w3.cell? ⟨g1,3,none⟩=some (.slice a2 n2 c2):=ab 3 HA3.out;have T1:=trivial;have T2:=trivial;have T3:=trivial;have T4:=trivial
      go_wp2_with (first
        | (clear T1
           refine aF rfl _ rfl g2 (by rfl) _ HB3.out (by rw [List.length_cons,h60]) ?_)
        | (clear T2
           refine fl rfl _ _ rfl q h60 _ _ _ _ (by rfl) (by rfl) ?_)
        | (clear T3
           refine gM rfl _ rfl _ (by rfl) ?_;intro w4 g4 hb4 hg4 ho4;have HB4:=Hd hb4;have HG4:=Hd (Nat.le_trans HO3.out.size hg4);have HO4:=Hd (HO3.out.trans ho4 (by simp));have HV4:=Hd (HV.out.quiet (HO3.out.trans ho4 (by simp)))
           clear hb4 hg4 ho4)
        | (clear T4
           refine iU rfl _ _ rfl q h60 rfl hl8 g4 HB4.out (by rfl) aa La ca (by rfl) HV4.out ?_;intro w5 hr5 ho5;have HR5:=Hd hr5;have HO5:=Hd (HO4.out.trans ho5 (by simp;exact HG4.out))
           clear hr5 ho5))
      go_ret2
      refine ⟨HO5.out,fun h=>(by rw [HGD.out] at h;cases h),fun _ h=>absurd HQ.out h,fun _ _=>⟨g4,rfl,?_,OR.nil _ _,?_,HP.out,HO5.out,HG4.out,HH.out⟩⟩
      · rw [← HPL2.out.1,← HPL2.out.2]
        exact HR5.out
      · show (args++List.replicate (64 - args.length) 0).length=64
        rw [List.length_append,List.length_replicate];omega
    · have HQ:=Hd (show (args.length:Int)≠c.params by rw [← HEL.out,← HPL2.out.1];exact hq)
      have hb:((La:Int) != P)=true:=by simpa using hq
      clear hq;go_wp2_with fail
      go_ret2
      exact ⟨HO3.out,fun h=>(by rw [HGD.out] at h;cases h),fun _ _=>rfl,fun _ h=>absurd h HQ.out⟩
end
section
variable {w:World} {ops:Array Oper} {o:Oper} {a:Act} {Q:Exit→Act→World→Prop}
theorem j8 {K:Act→World→Prop} {E:Prop} (hw:Region.wanted o (yielded ops a.tmps)=true) (x y:Operand) (ho:o.op=.store 33 x y) (g:Nat) (m:List Int) (hx:a.eval x=.pointer (some ⟨g,0,none⟩)) (hy:a.eval y=.agg (ivA m)) (hm:m.length=61)
  (l:List Int) (hb:PB w g 33 l) (hl:l.length=61) (hK:∀ w',PB w' g 33 m→Only [g] w w'→K (a.put o.dst undef) w'):if Region.wanted o (yielded ops a.tmps)=true then Oper.wp Tryz.prog o a w K Q else E:=by
 rw [if_pos hw];have hr:=run_storeVar_row (P:=Tryz.prog) w g 33 33 _ (ivA m) hb (bN m hm) (by rw [bH,bH];omega) (vE m);unfold Oper.wp execOp;simp only [ho,hx,hy,Instr.storeAt,Instr.sureAddr,Sem.run_bind,Sem.run_pure,Result.andThen_ok,hr];exact hK _ (hb.row m) ((Only.refl [g] w).setRow (.inl (by simp)) _)
end
theorem inM_wd {pg args:List Int} (hp:CW pg) (ha:∀ z∈args,n64 z):WdM (inM pg args):=
 ⟨fun z hz=>by simp [inM] at hz,fun z hz=>by
  rcases List.mem_append.1 hz with h | h
  ·exact ha z h
  ·rw [List.eq_of_mem_replicate h];exact a7,hp⟩
section
variable {w:World} {q:Int} {c:Cd} {pg args:List Int} {a1 a2 aa:Option Addr} {n1 c1 n2 c2 La ca:Nat}
theorem xi {w0:World} {g:Nat} (hg:em c=true) (hci:∀ i∈c.ins,n64 i.2) (hp:CW pg) (ha:∀ z∈args,n64 z) (hal:(args.length:Int)=c.params) (h:MV w0 w g q c a1 n1 c1 a2 n2 c2 (inM pg args) (.slice none 0 0)) :
  Calls Tryz.prog 21 #[.pointer (some ⟨g,0,none⟩)] w (RunP w0 g q c a1 n1 c1 a2 n2 c2 (oY c pg args)):=by
 obtain ⟨hd,hs,ht⟩:=rF hg;obtain ⟨F,hF⟩:=wN hs;have fit:=hd.fit;have hst:=steps_sm hd ht (inM pg args).lo
 exact mrun_any hd hF hci h (inM_ok hd hF hp.len (by omega)) (inM_wd hp ha) (by
  show Ph c _ 0 _≤_
  omega) rfl
def VrP (w:World) (r:List Int×Int×Value) (e:Ending) (w':World):Prop:=e=.returned (.tuple #[.agg (ivA r.1),.int .i64 r.2.1,r.2.2])∧Only [] w w'
theorem cG {fn:Func} {p x y:Tmp} (h:fn.results=#[.cell p 33,.tmp x,.tmp y]) (tmps:Array Value) (w:World) (g:Nat) (l:List Int) (u v:Value) (hp:tmps.getD p undef=.pointer (some ⟨g,0,none⟩)) (hx:tmps.getD x undef=u) (hy:tmps.getD y undef=v) (hb:PB w g 33 l) (hl:l.length=61) :
  (results fn tmps).run Tryz.prog w=.ok (.tuple #[.agg (ivA l),u,v]) w:=by
 have hp':tmps[p]?.getD undef=.pointer (some ⟨g,0,none⟩):=by simpa using hp
 have hx':tmps[x]?.getD undef=u:=by simpa using hx
 have hy':tmps[y]?.getD undef=v:=by simpa using hy
 simp [results,h,hp',hx',hy',asAddr,np hb hl,Result.andThen]
theorem rJ (h:CV w c a1 n1 c1 a2 n2 c2) (hci:∀ i∈c.ins,n64 i.2) (hp:CW pg) (hv:RV rZ w (.slice aa La ca) args) (ha:∀ z∈args,n64 z) (hL:La≤9223372036854775807) :
    Calls Tryz.prog 10 #[.agg #[.int .i64 c.params,.int .i64 c.locals,.slice a1 n1 c1,.slice a2 n2 c2],.agg (ivA (q :: pg)),.slice aa La ca] w (VrP w (j6 q c pg args)):=by
  obtain ⟨R,hR⟩:∃ R,R=j6 q c pg args:=⟨_,rfl⟩
  rw [← hR];unfold j6 at hR;have KS:=fun W (ho:Only [] w W)=>j7 (q:=q) (h.quiet ho) hp (hv.quiet ho) hL;have KG:=fun (w0 W:World) (g:Nat) hg hal hm=>xi (w:=W) (w0:=w0) (g:=g) (q:=q) (a1:=a1) (a2:=a2) (n1:=n1) (n2:=n2) (c1:=c1) (c2:=c2) (c:=c) (pg:=pg) (args:=args) hg hci hp ha hal hm;have h60:=hp.len;have HKG:=Hd KG;have HRR:=Hd hR;obtain ⟨P,hP⟩:∃ P,P=c.params:=⟨_,rfl⟩
  obtain ⟨L,hLo⟩:∃ P,P=c.locals:=⟨_,rfl⟩
  rw [← hP,← hLo] at KS;rw [← hP,← hLo];have HKS:=Hd KS;have HPL:=Hd hP;have hA:=ag w (.cells #[.int .i64 P,.int .i64 L,.slice a1 n1 c1,.slice a2 n2 c2] 25);have oA:Only [] w (w.alloc (.cells #[.int .i64 P,.int .i64 L,.slice a1 n1 c1,.slice a2 n2 c2] 25)):=(Only.refl _ _).alloc _;have HA:=Hd hA;have HOA:=Hd oA;obtain ⟨g1,hg1⟩:∃ g,g=w.heap.size:=⟨_,rfl⟩
  rw [← hg1] at HA;have T1:=trivial;have T2:=trivial;clear h hci hp hv ha hR KS KG hP hLo hA oA
  go_enter Tryz.func10,Tryz.ntmps10
  go_upto_region 1 with (first
    | (clear T1
       refine bw rfl _ rfl (q :: pg) (by rfl) ?_;intro w2 g2 hb2 hg2 ho2;have HB2:=Hd hb2;have HO2:=Hd (HOA.out.trans ho2 (by simp));have HA2:=Hd (ho2.heap HA.out (by simp));clear hb2 hg2 ho2)
    | (clear T2
       refine aJ rfl rfl ?_;intro w3 g6 hb6 hg6 ho6;have HB6:=Hd hb6;have HG6:=Hd (Nat.le_trans HO2.out.size hg6);have HO6:=Hd (HO2.out.trans ho6 (by simp));have HA6:=Hd (ho6.heap HA2.out (by simp));have HB3:=Hd (HB2.out.kept ho6 (by simp));clear hb6 hg6 ho6))
  rw [← hg1];have k0:w3.cell? ⟨g1,0,none⟩=some (.int .i64 P):=ab 0 HA6.out;have k1:w3.cell? ⟨g1,1,none⟩=some (.int .i64 L):=ab 1 HA6.out;have k2:w3.cell? ⟨g1,2,none⟩=some (.slice a1 n1 c1):=ab 2 HA6.out;have k3:w3.cell? ⟨g1,3,none⟩=some (.slice a2 n2 c2):=ab 3 HA6.out;have KS:=HKS.out w3 HO6.out;clear HA HOA hg1 HKS HA2 HO2 HB2;go_wp2_with (refine aF rfl _ rfl g2 (by rfl) _ HB3.out (by rw [List.length_cons,h60]) ?_)
  refine KS.mono ?_;rintro e w4 ⟨o4,s1,s2,s3⟩;have HOX:=Hd (HO6.out.trans o4 (by simp));have HB63:=HB6;have HO63:=HO6;replace HB6:=Hd (HB6.out.kept o4 (by simp));have hno:=jc;have her:=jb;clear KS k0 k1 k2 k3 HA6 HB3;cases hg:em c with
  | false=>
    obtain rfl:=s1 hg;have HR:=Hd (show R=(0 :: blankP,0,err 13) by rw [HRR.out,if_pos hg]);clear s1 s2 s3 hg o4
    go_wp2_with (first
      | (refine cr rfl [] rfl (0 :: blankP) cf ?_)
      | (refine aw rfl _ _ rfl g6 (0 :: blankP) (by rfl) (by rfl) (by rfl) _ HB6.out (by rfl) ?_
         intro w9 hb9 ho9;have HB9:=Hd hb9;have HO9:=Hd (HOX.out.trans ho9 (by simp;exact HG6.out))
         clear hb9 ho9))
    refine bodyPost_ret (cG rfl _ _ g6 _ _ _ (by rfl) (by rfl) (by rfl) HB9.out (by rfl)) rfl ⟨?_,HO9.out⟩;rw [HR.out];rfl
  | true=>
    by_cases hq:(args.length:Int)=c.params
    · obtain ⟨gm,rfl,hm⟩:=s3 hg hq
      have KM:=HKG.out w3 w4 gm hg hq hm;have HR':=Hd (show R=if (oY c pg args).2 then (q :: (oY c pg args).1.pg,(oY c pg args).1.gv,.nilIface) else (0 :: blankP,0,err 12) by rw [HRR.out,if_neg (by rw [hg];decide),if_neg (fun h=>h hq)]);generalize oY c pg args=RC at KM HR';obtain ⟨RS,RB⟩:=RC;have HM:=Hd hm;clear s1 s2 s3 hg hq hm o4 HKG HRR;(go_wp2_with fail);refine KM.mono ?_;rintro e w5 ⟨rfl,v5,hm5⟩;replace HB6:=Hd (HB63.out.kept hm5.only (by simp));replace HOX:=Hd (HO63.out.trans hm5.only (by simp));have HM5:=Hd hm5;clear KM hm5 HM HB63 HO63 HO6;dsimp only at HM5;cases RB with
      | false=>
        have HR:=Hd (show R=(0 :: blankP,0,err 12) from HR'.out)
        go_wp2_with (first
          | (refine cr rfl [] rfl (0 :: blankP) cf ?_)
          | (refine aw rfl _ _ rfl g6 (0 :: blankP) (by rfl) (by rfl) (by rfl) _ HB6.out (by rfl) ?_
             intro w9 hb9 ho9;have HB9:=Hd hb9;have HO9:=Hd (HOX.out.trans ho9 (by simp;exact HG6.out))
             clear hb9 ho9))
        refine bodyPost_ret (cG rfl _ _ g6 _ _ _ (by rfl) (by rfl) (by rfl) HB9.out (by rfl)) rfl ⟨?_,HO9.out⟩;rw [HR.out];rfl
      | true=>
        have HR:=Hd (show R=(q :: RS.pg,RS.gv,.nilIface) from HR'.out);clear HR';(go_upto_region 6 with (fail));have oD:Only [] w5 w5.drew:=(Only.refl [] w5).drew;have hM:=HM5.out.quiet oD;have hl6:=HM5.out.len;have hra:w5.drew.rangeAt gm 0 (iv (q :: RS.pg)):=by
          intro j u hj;have hlt:=(List.getElem?_eq_some_iff.1 hj).1;rw [aB,List.length_cons,hl6] at hlt;rw [Nat.zero_add,hM.cell j,qs hM.len (by omega)];exact hj
        have hsz:(Tryz.prog.info? 33).map (·.size)=some (iv (q :: RS.pg)).length:=by
          have:=bN (q :: RS.pg) (by rw [List.length_cons,hl6])
          rwa [bH,← aB] at this
        have hne:gm≠g6:=fun e=>by
          have h1:=HM5.out.row;rw [e,show w5.heap[g6]?=_ from HB6.out] at h1;simp at h1
        refine wp_region_held_drew (S:=fun w'=>w'.rangeAt gm 0 (iv (q :: RS.pg))∧w'.cell? ⟨gm,132,none⟩=some (.int .i64 RS.gv)) (by kernel_rfl) ⟨hra,hM.giv⟩ (fun hH=>?_);have HB7:=Hd (HB6.out.kept oD (by simp));have HO7:=Hd (HOX.out.trans oD (by simp));have HNE:=Hd hne;generalize w5.drew=wd at HB7 HO7 hH⊢;clear oD hM hra hne HB6 HOX HM5;refine tk 0 hH ?_;refine tk 1 hH ?_;refine tk 2 hH ?_;refine tk 3 (v:=.agg (iv (q :: RS.pg)).toArray) hH ?_ (hy:=yieldsIf_load_mid (by rfl) 33 (.tmp 29) rfl gm 0 (by rfl) (iv (q :: RS.pg)) _ (fun w h=>h.1) Tryz.underlying33 rfl hsz);refine tk 4 hH ?_;refine tk 5 hH ?_;refine tk 6 hH ?_;refine tk 7 hH ?_;refine rd 8 (fun K hK=>?_);refine j8 (by rfl) (.tmp 6) (.tmp 30) (by rfl) g6 (q :: RS.pg) (by rfl) (by rfl) (by rw [List.length_cons,hl6]) _ HB7.out (by rfl) (fun w8 hb8 ho8=>?_);have HB8:=Hd hb8;have HO8:=Hd (HO7.out.trans ho8 (by simp;exact HG6.out));refine hK.out _ _ ⟨fun j u hj=>ac ho8 (hH.1 j u hj) (by simpa using HNE.out),ac ho8 hH.2 (by simpa using HNE.out)⟩ (fun hH=>?_);clear hK K hb8 ho8;refine rd 9 (fun K hK=>?_);go_simp;refine hK.out _ _ hH (fun hH=>?_);clear hK K;refine rd 10 (fun K hK=>?_);go_simp;refine hK.out _ _ hH (fun hH=>?_);clear hK K;refine wpAnyH_done (by kernel_rfl) ?_ _;clear hH;(go_wp2_with fail);refine bodyPost_ret (cG rfl _ _ g6 _ _ _ (by rfl) (by rfl) (by rfl) HB8.out (by rw [List.length_cons,hl6])) rfl ⟨?_,HO8.out⟩;rw [HR.out];rfl
    · obtain rfl:=s2 hg hq
      have HR:=Hd (show R=(0 :: blankP,0,err 2) by rw [HRR.out,if_neg (by rw [hg];decide),if_pos hq]);clear s1 s2 s3 hg hq o4
      go_wp2_with (first
        | (refine cr rfl [] rfl (0 :: blankP) cf ?_)
        | (refine aw rfl _ _ rfl g6 (0 :: blankP) (by rfl) (by rfl) (by rfl) _ HB6.out (by rfl) ?_
           intro w9 hb9 ho9;have HB9:=Hd hb9;have HO9:=Hd (HOX.out.trans ho9 (by simp;exact HG6.out))
           clear hb9 ho9))
      refine bodyPost_ret (cG rfl _ _ g6 _ _ _ (by rfl) (by rfl) (by rfl) HB9.out (by rfl)) rfl ⟨?_,HO9.out⟩;rw [HR.out];rfl
end
section
variable {w:World} {q:Int} {c:Cd} {pg args:List Int} {a1 a2 aa:Option Addr} {n1 c1 n2 c2 La ca:Nat}
def VsP (w:World) (r:Int×Value) (e:Ending) (w':World):Prop:=e=.returned (.tuple #[.int .i64 r.1,r.2])∧Only [] w w'
theorem vsteps_any (h:CV w c a1 n1 c1 a2 n2 c2) (hci:∀ i∈c.ins,n64 i.2) (hp:CW pg) (hv:RV rZ w (.slice aa La ca) args) (ha:∀ z∈args,n64 z) (hL:La≤9223372036854775807) :
  Calls Tryz.prog 11 #[.agg #[.int .i64 c.params,.int .i64 c.locals,.slice a1 n1 c1,.slice a2 n2 c2],.agg (ivA (q :: pg)),.slice aa La ca] w (VsP w (qt c pg args)):=by
 obtain ⟨R,hR⟩:∃ R,R=qt c pg args:=⟨_,rfl⟩
 rw [← hR];unfold qt at hR;have KS:=fun W (ho:Only [] w W)=>j7 (q:=q) (h.quiet ho) hp (hv.quiet ho) hL;have KG:=fun (w0 W:World) (g:Nat) hg hal hm=>xi (w:=W) (w0:=w0) (g:=g) (q:=q) (a1:=a1) (a2:=a2) (n1:=n1) (n2:=n2) (c1:=c1) (c2:=c2) (c:=c) (pg:=pg) (args:=args) hg hci hp ha hal hm;have h60:=hp.len;have HKG:=Hd KG;have HRR:=Hd hR;obtain ⟨P,hP⟩:∃ P,P=c.params:=⟨_,rfl⟩
 obtain ⟨L,hLo⟩:∃ P,P=c.locals:=⟨_,rfl⟩
 rw [← hP,← hLo] at KS;rw [← hP,← hLo];have HKS:=Hd KS;have HPL:=Hd hP;have hA:=ag w (.cells #[.int .i64 P,.int .i64 L,.slice a1 n1 c1,.slice a2 n2 c2] 25);have oA:Only [] w (w.alloc (.cells #[.int .i64 P,.int .i64 L,.slice a1 n1 c1,.slice a2 n2 c2] 25)):=(Only.refl _ _).alloc _;have HA:=Hd hA;have HOA:=Hd oA;obtain ⟨g1,hg1⟩:∃ g,g=w.heap.size:=⟨_,rfl⟩
 rw [← hg1] at HA;clear h hci hp hv ha hR KS KG hP hLo hA oA
 go_enter Tryz.func11,Tryz.ntmps11
 go_upto_region 1 with (refine bw rfl _ rfl (q :: pg) (by rfl) ?_;intro w3 g2 hb2 hg2 ho2;have HB3:=Hd hb2;have HO6:=Hd (HOA.out.trans ho2 (by simp));have HA6:=Hd (ho2.heap HA.out (by simp));clear hb2 hg2 ho2)
 rw [← hg1];have k0:w3.cell? ⟨g1,0,none⟩=some (.int .i64 P):=ab 0 HA6.out;have k1:w3.cell? ⟨g1,1,none⟩=some (.int .i64 L):=ab 1 HA6.out;have k2:w3.cell? ⟨g1,2,none⟩=some (.slice a1 n1 c1):=ab 2 HA6.out;have k3:w3.cell? ⟨g1,3,none⟩=some (.slice a2 n2 c2):=ab 3 HA6.out;have KS:=HKS.out w3 HO6.out;clear HA HOA hg1 HKS;go_wp2_with (refine aF rfl _ rfl g2 (by rfl) _ HB3.out (by rw [List.length_cons,h60]) ?_)
 refine KS.mono ?_;rintro e w4 ⟨o4,s1,s2,s3⟩;have HOX:=Hd (HO6.out.trans o4 (by simp));have hno:=jc;have her:=jb;clear KS k0 k1 k2 k3 HA6 HB3;cases hg:em c with
 | false=>
  obtain rfl:=s1 hg;have HR:=Hd (show R=(0,err 13) by rw [HRR.out,if_pos hg]);clear s1 s2 s3 hg o4;go_wp2_with fail
  go_ret2
  exact ⟨by rw [HR.out]<;>rfl,HOX.out⟩
 | true=>
  by_cases hq:(args.length:Int)=c.params
  ·obtain ⟨gm,rfl,hm⟩:=s3 hg hq;have KM:=HKG.out w3 w4 gm hg hq hm;have HR':=Hd (show R=(((oY c pg args).1.n:Int),Value.nilIface) by rw [HRR.out,if_neg (by rw [hg];decide),if_neg (fun h=>h hq)]);generalize oY c pg args=RC at KM HR';clear s1 s2 s3 hg hq hm o4 HKG HRR;(go_wp2_with fail);refine KM.mono ?_;rintro e w5 ⟨rfl,v5,hm5⟩;have HO5:=Hd (HO6.out.trans hm5.only (by simp));have c131:=hm5.cnt;clear KM hm5 HO6;go_wp2_with fail
   go_ret2
   exact ⟨by rw [HR'.out]<;>rfl,HO5.out⟩
  ·obtain rfl:=s2 hg hq;have HR:=Hd (show R=(0,err 2) by rw [HRR.out,if_neg (by rw [hg];decide),if_pos hq]);clear s1 s2 s3 hg hq o4;go_wp2_with fail
   go_ret2
   exact ⟨by rw [HR.out]<;>rfl,HOX.out⟩
end
end Go.Proofs.YtcebchffcmpfeaaGreat
