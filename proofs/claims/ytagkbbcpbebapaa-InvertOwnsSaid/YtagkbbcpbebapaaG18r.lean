import Derived.Test.YtagkbbcpbebapaaG17r
namespace Go.Proofs.Ytagkbbcpbebapaa
open Go.RowKit Go.Maps
set_option linter.unusedSimpArgs false
set_option linter.unusedVariables false
theorem run_append_st2 {w:World} (base:Nat) (ty:TypeId) (v:Value) (m:Nat) (vs:List Value) (hown:w.ownsRow base 61 7 v m vs) (bx capx:Nat) (k n p:Int) (s:ByteArray) (a1 a2 a3:Option Addr) (l1 l2 l3 c1 c2 c3:Nat)
  (hc:∀ j u,[.int .i64 k,.string s,.slice a1 l1 c1,.int .i64 n,.slice a2 l2 c2,.slice a3 l3 c3,.int .i64 p][j]?=some u→w.cell? ⟨bx,j,none⟩=some u) (hn:m≤1048576) (hb:base≤w.heap.size) :
  ∃ a cap w',(Builtin.append_ #[25,25] ty #[v,.slice (some ⟨bx,0,none⟩) 1 capx]).run Try.prog w=.ok (.slice a (m+1) cap) w'∧
   w'.ownsRow base 61 7 (.slice a (m+1) cap) (m+1) (vs++[.int .i64 k,.string s,.slice a1 l1 c1,.int .i64 n,.slice a2 l2 c2,.slice a3 l3 c3,.int .i64 p])∧Only v.ownBlock.toList w w'∧
   ((Value.slice a (m+1) cap).ownBlock=v.ownBlock∨(Value.slice a (m+1) cap).ownBlock=some w.heap.size):=by
 obtain ⟨i,hi,hz⟩:=Option.map_eq_some_iff.1 info_st
 simp only [Prod.mk.injEq] at hz
 obtain ⟨z1,z2,z3⟩:=hz
 have hcell:∀ (j:Nat) (u:Value),([.int .i64 k,.string s,.slice a1 l1 c1,.int .i64 n,.slice a2 l2 c2,.slice a3 l3 c3,.int .i64 p]:List Value)[j]?=some u→w.cell? ((⟨bx,0,none⟩:Addr).add j)=some u:=fun j u hj=>by
  have:(⟨bx,0,none⟩:Addr).add j=⟨bx,j,none⟩:=by simp [Addr.add];exact fun e=>e.symm
  rw [this]
  exact hc j u hj
 obtain ⟨v',w',hr,k1,k2,_,k5⟩:=run_append_own_at (P:=Try.prog) w base 25 ty 61 i (.agg #[.int .i64 0,.string ⟨#[]⟩,.slice none 0 0,.int .i64 0,.slice none 0 0,.slice none 0 0,.int .i64 0]) 7 112 Try.underlying25 hi z1 z2 z3 rfl (by omega) v m vs hown ⟨bx,0,none⟩ 1 capx [.int .i64 k,.string s,.slice a1 l1 c1,.int .i64 n,.slice a2 l2 c2,.slice a3 l3 c3,.int .i64 p] rfl hcell (by simp [Value.oneCell']) (by unfold maxLen;omega) (by omega) hb
 have hsh:∃ a cap,v'=.slice a (m+1) cap:=by
  rcases k1.2 with ⟨_,hn⟩ | ⟨g,cap,cur,rfl,_⟩
  ·omega
  ·exact ⟨_,_,rfl⟩
 obtain ⟨a,cap,rfl⟩:=hsh
 exact ⟨a,cap,w',hr,k1,Only.of_grown k2,k5⟩
section
variable {w:World} {ops:Array Oper} {rest:List Oper} {o:Oper} {a:Act} {Q:Exit→Act→World→Prop}
theorem wpList_append_st (hg:o.guard=none) (s x:Operand) (hop:o.op=Op.call {callee:=Callee.builtin Builtin.append,args:=#[s,x],argTypes:=#[25,25] })
  (base:Nat) (v:Value) (m:Nat) (vs:List Value) (hs:a.eval s=v) (hown:w.ownsRow base 61 7 v m vs) (bx capx:Nat) (hx:a.eval x=.slice (some ⟨bx,0,none⟩) 1 capx) (k n p:Int) (sb:ByteArray) (a1 a2 a3:Option Addr) (l1 l2 l3 c1 c2 c3:Nat)
  (hc:∀ j u,[.int .i64 k,.string sb,.slice a1 l1 c1,.int .i64 n,.slice a2 l2 c2,.slice a3 l3 c3,.int .i64 p][j]?=some u→w.cell? ⟨bx,j,none⟩=some u) (hn:m≤1048576) (hb:base≤w.heap.size)
  (hK:∀ a' cap w',w'.ownsRow base 61 7 (.slice a' (m+1) cap) (m+1) (vs++[.int .i64 k,.string sb,.slice a1 l1 c1,.int .i64 n,.slice a2 l2 c2,.slice a3 l3 c3,.int .i64 p])→Only v.ownBlock.toList w w'→
   ((Value.slice a' (m+1) cap).ownBlock=v.ownBlock∨(Value.slice a' (m+1) cap).ownBlock=some w.heap.size)→wpList Try.prog ops Q rest (a.put o.dst (.slice a' (m+1) cap)) w') :
  wpList Try.prog ops Q (o :: rest) a w:=by
 refine wpList_plain hg fun K' hK'=>?_
 obtain ⟨a',cap,w',hrun,k1,k2,k3⟩:=run_append_st2 base o.type v m vs hown bx capx k n p sb a1 a2 a3 l1 l2 l3 c1 c2 c3 hc hn hb
 unfold Oper.wp
 simp [execOp,hop,resolve,invoke,builtin,hs,hx,hrun,Result.andThen]
 exact hK' _ _ (hK _ _ w' k1 k2 k3)
end
theorem closeL_z (ts:List Tok) (r:Except Nat (List St×Nat)):zR (closeL ts r)=zP (eatP ts (nextP r) [125]):=by
 cases r with
 | error k=>rfl
 | ok y=>
  obtain ⟨t,a⟩:=y
  show zR (match eatT ts a [125] with | .error k=>.error k | .ok b=>.ok (t,b))=zP (eatT ts a [125])
  cases eatT ts a [125]<;>rfl
theorem closeL_ok {ts:List Tok} {r:Except Nat (List St×Nat)} {s:List St} {j:Nat} (h:closeL ts r=.ok (s,j)):∃ a,r=.ok (s,a):=by
 cases r with
 | error k=>cases h
 | ok y=>
  obtain ⟨t',a⟩:=y
  unfold closeL at h
  cases hc:eatT ts a [125]<;>simp [hc] at h
  exact ⟨a,by rw [h.1]⟩
theorem stmtsR_more {ts:List Tok} {f i dp a:Nat} {s:St} (h:isT ts i [125]=false) (e:stmtR ts f i dp=.ok (s,a)):stmtsR ts (f+1) i dp=mapR (s :: ·) (stmtsR ts f a dp):=by
 conv=>lhs;unfold stmtsR
 rw [if_neg (by rw [h];decide),e]
 dsimp only
 cases stmtsR ts f a dp<;>rfl
theorem stmtsR_bad {ts:List Tok} {f i dp k:Nat} (h:isT ts i [125]=false) (e:stmtR ts f i dp=.error k):stmtsR ts (f+1) i dp=.error k:=by
 conv=>lhs;unfold stmtsR
 rw [if_neg (by rw [h];decide),e]
theorem mapR_more (l0:List St) (s:St) (x:Except Nat (List St×Nat)):mapR (l0++·) (mapR (s :: ·) x)=mapR ((l0++[s])++·) x:=by
 cases x with
 | error k=>rfl
 | ok y=>simp [mapR]
def stP (ts:List Tok) (f:Nat) (q:Except Nat Nat) (dp:Nat):Except Nat (List St×Nat):=match q with | .ok i=>stmtsR ts f i dp | .error k=>.error k
structure LB (ts:List Tok) (w:World) (R:Except Nat (List St×Nat)) (dp f:Nat) (wr:World) (z:Int) (v8:Value):Prop where
 only:Only [] w wr
 now:(∃ (f' i:Nat) (l0:List St),z=(i:Int)∧i < ts.length∧l0.length≤i∧2*(ts.length - i)+2≤f'∧f'≤f∧dp+1≤12∧R=mapR (l0++·) (stmtsR ts f' i (dp+1))∧OSt wr w.heap.size v8 l0)∨
  (∃ (k:Nat) (a:Option Addr) (l c:Nat),z=-1 - (k:Int)∧k < ts.length∧v8=.slice a l c∧R=.error k)
theorem OSt.shape {w:World} {base:Nat} {v:Value} {l:List St} (h:OSt w base v l):∃ a cap,v=.slice a l.length cap:=by
 obtain ⟨a,cap,h1,_⟩:=h.ssv
 exact ⟨a,cap,h1⟩
section
variable {w w':World} {v:Value} {ts:List Tok}
set_option maxRecDepth 100000 in
set_option maxHeartbeats 4000000 in
theorem rblock_no (h:TS w v ts) {i:Nat} (hi:i < ts.length) (dp:Nat) (h12:12≤dp) (hx:isT ts i [123]=true) :
  Calls Try.prog 89 #[v,.int .i64 (i:Int),.int .i64 (dp:Int)] w (RBl w (.error i)):=by
 obtain ⟨a,cap,rfl⟩:=h.shape
 have hlen:=h.len
 have KI:∀ x:ByteArray,Calls Try.prog 67 #[.slice a ts.length cap,.int .i64 (i:Int),.string x] w fun e w'=>e=.returned (.bool (isT ts i x.data.toList))∧w=w':=fun x=>ris_any h (.ok i) hi x
 have h12':(12:Int)≤(dp:Int):=by omega
 clear h
 go_enter Try.func89,Try.ntmps89
 go_wp2_with fail
 refine (KI _).mono ?_
 rintro e w' ⟨rfl,rfl⟩
 rw [show isT ts i (⟨#[123]⟩:ByteArray).data.toList=true from hx]
 go_wp2_with fail
 refine (rbad_any i (by omega) _).mono ?_
 rintro e w' ⟨rfl,rfl⟩
 go_wp2_with fail
 go_ret2
 exact ⟨none,0,0,rfl,(fun t j h=>by cases h),Only.refl _ _⟩
theorem block_less {ts:List Tok} {j:Nat} (hj:j < ts.length) {r:Except Nat (St×Nat)} (h:Adv ts j r) :
  (if intOf (.int .i64 (zR r)) < 0 then 0 else ts.length+1 - (intOf (.int .i64 (zR r))).toNat) < if intOf (.int .i64 (j:Int)) < 0 then 0 else ts.length+1 - (intOf (.int .i64 (j:Int))).toNat:=by
 have e1:intOf (.int .i64 (j:Int))=(j:Int):=rfl
 rw [e1,if_neg (show ¬ (j:Int) < 0 by omega)]
 cases r with
 | error k=>
  have e2:intOf (.int .i64 (zR (.error k:Except Nat (St×Nat))))=-1 - (k:Int):=rfl
  rw [e2,if_pos (show -1 - (k:Int) < 0 by omega)]
  omega
 | ok y=>
  obtain ⟨t2,b2⟩:=y
  have hb:j < b2∧b2 < ts.length:=h
  have e2:intOf (.int .i64 (zR (.ok (t2,b2):Except Nat (St×Nat))))=(b2:Int):=rfl
  rw [e2,if_neg (show ¬ (b2:Int) < 0 by omega)]
  omega
set_option maxRecDepth 100000 in
set_option maxHeartbeats 8000000 in
theorem rblock_go (h:TS w v ts) (p:Except Nat Nat) (hp:PosOk ts p) (f dp:Nat) (hdp:dp≤12) (hb:¬ (12≤dp∧isP ts p [123]=true)) (hfu:∀ i,eatP ts p [123]=.ok i→2*(ts.length - i)+2≤f∧dp+1≤12) (IS:∀ g,g < f→StmtC ts g) :
  Calls Try.prog 89 #[v,.int .i64 (zP p),.int .i64 (dp:Int)] w (RBl w (closeL ts (stP ts f (eatP ts p [123]) (dp+1)))):=by
 obtain ⟨a,cap,rfl⟩:=h.shape
 have hlen:=h.len
 have H:=Hd h
 obtain ⟨q,hq⟩:∃ q,q=eatP ts p [123]:=⟨_,rfl⟩
 have hpq:PosOk ts q:=by rw [hq];exact eatP_ok h.ends hp _
 rw [← hq] at hfu⊢
 obtain ⟨R0,hR0⟩:∃ R0,R0=stP ts f q (dp+1):=⟨_,rfl⟩
 rw [← hR0]
 obtain ⟨RC,hRC⟩:∃ RC,RC=closeL ts R0:=⟨_,rfl⟩
 rw [← hRC]
 have HRC:=Hd hRC
 have KI:Calls Try.prog 67 #[.slice a ts.length cap,.int .i64 (zP p),.string ⟨#[123]⟩] w fun e w'=>e=.returned (.bool (isP ts p [123]))∧w=w':=ris_any h p hp ⟨#[123]⟩
 have KT:Calls Try.prog 66 #[.slice a ts.length cap,.int .i64 (zP p),.string ⟨#[123]⟩] w fun e w'=>e=.returned (.int .i64 (zP q))∧w=w':=by
  have:=reat_any h p hp ⟨#[123]⟩
  rw [show eatP ts p (⟨#[123]⟩:ByteArray).data.toList=q from hq.symm] at this
  exact this
 have hL:LB ts w R0 dp f w (zP q) (.slice none 0 0):=by
  refine ⟨Only.refl _ _,?_⟩
  cases q with
  | error k=>exact .inr ⟨k,none,0,0,rfl,hpq,rfl,hR0⟩
  | ok i=>
   have:=hfu i rfl
   refine .inl ⟨f,i,[],rfl,hpq,by simp,this.1,Nat.le_refl _,this.2,?_,OSt.nil _ _⟩
   rw [hR0]
   show stmtsR ts f i (dp+1)=_
   cases stmtsR ts f i (dp+1) with
   | error k=>rfl
   | ok y=>rfl
 have HL0:=Hd hL
 have HKI:=Hd KI
 have HKT:=Hd KT
 generalize zP p=zp at HKI HKT⊢
 generalize isP ts p [123]=bx at HKI hb
 clear h hp hL hq hR0 hRC KI KT hfu hpq
 go_enter Try.func89,Try.ntmps89
 by_cases h12:12≤dp
 ·have h12':(12:Int)≤(dp:Int):=by omega
  obtain rfl:bx=false:=by
   cases bx
   ·rfl
   ·exact absurd ⟨h12,rfl⟩ hb
  clear hb
  go_wp2_with fail
  refine HKI.out.mono ?_
  rintro e w' ⟨rfl,rfl⟩
  go_wp2_with fail
  refine HKT.out.mono ?_
  rintro e w' ⟨rfl,rfl⟩
  go_wp2_with fail
  obtain ⟨wo,hwo⟩:∃ wo:World,wo=w:=⟨_,rfl⟩
  go_loopw [1,8] (fun at_ out wr=>∃ (z:Int) (vo:Value),at_=.int .i64 z∧out=vo∧Hid (LB ts w R0 dp f wr z vo)) (fun at_ _ _=>if intOf at_ < 0 then 0 else ts.length+1 - (intOf at_).toNat)
  case atStart=>exact ⟨zP q,_,rfl,rfl,HL0⟩
  case round=>
   clear HL0 HKI HKT
   obtain ⟨z,vo,rfl,hvo,L⟩:=hrel
   obtain rfl:vo=_:=hvo.symm
   rcases L.out.now with ⟨f',j,l0,rfl,hj,hl0,hf1,hf2,hd12,hRj,hv⟩ | ⟨k,a8,l8,c8,hz,hk,rfl,hRe⟩
   ·exact absurd hd12 (by omega)
   ·have hz0:z < 0:=by omega
    have HRE:=Hd (And.intro hRe hz)
    have KT:Calls Try.prog 66 #[.slice a ts.length cap,.int .i64 z,.string ⟨#[125]⟩] wr fun e w'=>e=.returned (.int .i64 z)∧wr=w':=by
     have:=reat_any (H.out.quiet L.out.only) (.error k) hk ⟨#[125]⟩
     rw [show zP (eatP ts (.error k) (⟨#[125]⟩:ByteArray).data.toList)=z from hz.symm,show zP (.error k)=z from hz.symm] at this
     exact this
    clear hz hRe
    go_wp2_with fail
    refine KT.mono ?_
    rintro e w' ⟨rfl,rfl⟩
    go_wp2_with fail
    go_ret2
    refine ⟨a8,l8,c8,?_,fun t i ht=>?_,L.out.only⟩
    ·rw [HRC.out,HRE.out.1,HRE.out.2]
     rfl
    ·rw [HRC.out,HRE.out.1] at ht
     cases ht
 ·have h12':¬ (12:Int)≤(dp:Int):=by omega
  clear hb
  go_wp2_with fail
  refine HKT.out.mono ?_
  rintro e w' ⟨rfl,rfl⟩
  go_wp2_with fail
  obtain ⟨wo,hwo⟩:∃ wo:World,wo=w:=⟨_,rfl⟩
  go_loopw [1,8] (fun at_ out wr=>∃ (z:Int) (vo:Value),at_=.int .i64 z∧out=vo∧Hid (LB ts w R0 dp f wr z vo)) (fun at_ _ _=>if intOf at_ < 0 then 0 else ts.length+1 - (intOf at_).toNat)
  case atStart=>exact ⟨zP q,_,rfl,rfl,HL0⟩
  case round=>
   clear HL0 HKI HKT
   obtain ⟨z,vo,rfl,hvo,L⟩:=hrel
   obtain rfl:vo=_:=hvo.symm
   rcases L.out.now with ⟨f',j,l0,rfl,hj,hl0,hf1,hf2,hd12,hRj,hv⟩ | ⟨k,a8,l8,c8,hz,hk,rfl,hRe⟩
   ·have j0:(0:Int)≤(j:Int):=by omega
    have HT:=Hd (H.out.quiet L.out.only)
    have KI:∀ x:ByteArray,Calls Try.prog 67 #[.slice a ts.length cap,.int .i64 (j:Int),.string x] wr fun e w'=>e=.returned (.bool (isT ts j x.data.toList))∧wr=w':=fun x=>ris_any HT.out (.ok j) hj x
    obtain ⟨f2,rfl⟩:∃ f2,f'=f2+1:=⟨f' - 1,by omega⟩
    have HV:=Hd hv
    have HRj:=Hd hRj
    clear hv hRj
    cases hd:isT ts j [125] with
    | true=>
     have hR:R0=.ok (l0,j):=by
      rw [HRj.out]
      unfold stmtsR
      rw [if_pos hd]
      simp [mapR]
     have HR:=Hd hR
     clear hR
     go_wp2_with fail
     refine (KI _).mono ?_
     rintro e w' ⟨rfl,rfl⟩
     rw [show isT ts j (⟨#[125]⟩:ByteArray).data.toList=true from hd]
     obtain ⟨a8,c8,rfl⟩:=HV.out.shape
     have KT:Calls Try.prog 66 #[.slice a ts.length cap,.int .i64 (j:Int),.string ⟨#[125]⟩] wr fun e w'=>e=.returned (.int .i64 (zP (eatT ts j [125])))∧wr=w':=reat_any HT.out (.ok j) hj ⟨#[125]⟩
     go_wp2_with fail
     refine KT.mono ?_
     rintro e w' ⟨rfl,rfl⟩
     go_wp2_with fail
     go_ret2
     refine ⟨a8,l0.length,c8,?_,fun t i ht=>?_,L.out.only⟩
     ·rw [HRC.out,closeL_z,HR.out]
      rfl
     ·rw [HRC.out] at ht
      obtain ⟨a',ha'⟩:=closeL_ok ht
      rw [HR.out] at ha'
      cases ha'
      exact HV.out.ssv
    | false=>
     obtain ⟨r,hr⟩:∃ r,r=stmtR ts f2 j (dp+1):=⟨_,rfl⟩
     have had:Adv ts j r:=by rw [hr];exact (adv_stmt H.out.ends f2).1 j (dp+1) hj
     have KS:∀ W,Only [] wr W→Calls Try.prog 69 #[.slice a ts.length cap,.int .i64 (j:Int),.int .i64 ((dp:Int)+1)] W (RSt W r):=fun W ho=>by
      have:=IS f2 (by omega) W _ j (dp+1) (HT.out.quiet ho) hj (by omega) (by omega)
      rw [← hr,show ((dp+1:Nat):Int)=(dp:Int)+1 by omega] at this
      exact this
     have hRn:∀ s a,r=.ok (s,a)→R0=mapR ((l0++[s])++·) (stmtsR ts f2 a (dp+1)):=by
      intro s a e
      rw [HRj.out,stmtsR_more hd (hr.symm.trans e),mapR_more]
     have hRf:∀ k,r=.error k→R0=.error k:=by
      intro k e
      rw [HRj.out,stmtsR_bad hd (hr.symm.trans e)]
      rfl
     have HRN:=Hd (And.intro hRn hRf)
     have HKS:=Hd KS
     have HAD:=Hd had
     clear hRn hRf KS had hr HRj
     go_wp2_with fail
     refine (KI _).mono ?_
     rintro e w' ⟨rfl,rfl⟩
     rw [show isT ts j (⟨#[125]⟩:ByteArray).data.toList=false from hd]
     go_wp2_with fail
     refine (HKS.out wr (Only.refl _ _)).mono ?_
     rintro e w4 ⟨k,n,p,s,a1,a2,a3,l1,l2,l3,c1,c2,c3,rfl,hv,o4⟩
     have HS:=Hd hv
     have HO4:=Hd o4
     clear hv o4 KI
     go_upto_region 7 with (fail)
     have o5:Only [] w4 (w4.alloc (.cells #[.int .i64 k,.string s,.slice a1 l1 c1,.int .i64 n,.slice a2 l2 c2,.slice a3 l3 c3,.int .i64 p] 61)):=(Only.refl _ _).alloc _
     have hX5:=heap_new w4 (.cells #[.int .i64 k,.string s,.slice a1 l1 c1,.int .i64 n,.slice a2 l2 c2,.slice a3 l3 c3,.int .i64 p] 61)
     generalize w4.alloc (.cells #[.int .i64 k,.string s,.slice a1 l1 c1,.int .i64 n,.slice a2 l2 c2,.slice a3 l3 c3,.int .i64 p] 61)=w5 at o5 hX5⊢
     have x0:w5.cell? ⟨w4.heap.size,0,none⟩=some (.int .i64 k):=cell_at 0 hX5
     have x1:w5.cell? ⟨w4.heap.size,1,none⟩=some (.string s):=cell_at 1 hX5
     have x2:w5.cell? ⟨w4.heap.size,2,none⟩=some (.slice a1 l1 c1):=cell_at 2 hX5
     have x3:w5.cell? ⟨w4.heap.size,3,none⟩=some (.int .i64 n):=cell_at 3 hX5
     have x4:w5.cell? ⟨w4.heap.size,4,none⟩=some (.slice a2 l2 c2):=cell_at 4 hX5
     have x5:w5.cell? ⟨w4.heap.size,5,none⟩=some (.slice a3 l3 c3):=cell_at 5 hX5
     have x6:w5.cell? ⟨w4.heap.size,6,none⟩=some (.int .i64 p):=cell_at 6 hX5
     have o6:Only [] w5 (w5.alloc (.cells #[.int .i64 k,.string s,.slice a1 l1 c1,.int .i64 n,.slice a2 l2 c2,.slice a3 l3 c3,.int .i64 p] 61)):=(Only.refl _ _).alloc _
     have hY6:=heap_new w5 (.cells #[.int .i64 k,.string s,.slice a1 l1 c1,.int .i64 n,.slice a2 l2 c2,.slice a3 l3 c3,.int .i64 p] 61)
     have hwr:wr.heap.size≤w4.heap.size:=HO4.out.size
     have ho06:Only [] wr (w5.alloc (.cells #[.int .i64 k,.string s,.slice a1 l1 c1,.int .i64 n,.slice a2 l2 c2,.slice a3 l3 c3,.int .i64 p] 61)):=(HO4.out.trans o5 (by simp)).trans o6 (by simp)
     have hsz:w.heap.size≤(w5.alloc (.cells #[.int .i64 k,.string s,.slice a1 l1 c1,.int .i64 n,.slice a2 l2 c2,.slice a3 l3 c3,.int .i64 p] 61)).heap.size:=(L.out.only.trans ho06 (by simp)).size
     have hown0:∀ g,vo.ownBlock=some g→g < wr.heap.size:=fun g hg=>by
      obtain ⟨css,hown,_⟩:=HV.out
      exact (World.ownsRow.lt hown g hg).2
     obtain ⟨css,hown,hcl,hcs⟩:=HV.out.quiet ho06
     have HOWN:=Hd hown
     have HCS:=Hd (And.intro hcl hcs)
     have HC:=Hd (show ∀ (j:Nat) (u:Value),([.int .i64 k,.string s,.slice a1 l1 c1,.int .i64 n,.slice a2 l2 c2,.slice a3 l3 c3,.int .i64 p]:List Value)[j]?=some u→(w5.alloc (.cells #[.int .i64 k,.string s,.slice a1 l1 c1,.int .i64 n,.slice a2 l2 c2,.slice a3 l3 c3,.int .i64 p] 61)).cell? ⟨w5.heap.size,j,none⟩=some u from fun j u hj=>by
      rw [cell_at _ hY6]
      simpa using hj)
     have HO456:=Hd (o5.trans o6 (by simp))
     have HO06:=Hd ho06
     have HSZ:=Hd hsz
     clear hown hcl hcs hX5 hY6 o5 o6 ho06 hsz
     go_wp2_with (
      refine wpList_append_st rfl (.tmp 39) (.tmp 41) rfl w.heap.size _ l0.length css.flatten (by rfl) HOWN.out w5.heap.size 1 (by rfl) k n p s a1 a2 a3 l1 l2 l3 c1 c2 c3 HC.out (by omega) HSZ.out ?_
      intro a8 c8 w7 how7 ho7 hb7
      have HW7:=Hd (And.intro how7 (And.intro ho7 hb7))
      clear how7 ho7 hb7)
     refine ⟨⟨zR r,_,rfl,rfl,Hd ?_⟩,block_less hj HAD.out⟩
     obtain ⟨how7,ho7,hb7⟩:=HW7.out
     have hlt:∀ g,vo.ownBlock=some g→w.heap.size≤g:=fun g hg=>(World.ownsRow.lt HOWN.out g hg).1
     refine ⟨(L.out.only.trans HO06.out (by simp)).trans ho7 (fun g hg=>.inr (hlt g (by simpa using hg))),?_⟩
     cases r with
     | error k9=>exact .inr ⟨k9,a8,_,c8,rfl,HAD.out.2,rfl,HRN.out.2 k9 rfl⟩
     | ok y=>
      obtain ⟨t,b⟩:=y
      have hb:j < b∧b < ts.length:=HAD.out
      refine .inl ⟨f2,b,l0++[t],rfl,hb.2,by simp;omega,by omega,by omega,hd12,HRN.out.1 t b rfl,?_⟩
      refine OSt.snoc HCS.out.1 HCS.out.2 (SV.kept (HO456.out) (by simp) (fun b hb=>?_) t _ (SV.lt t _ (HS.out t b rfl))) how7 ho7 (hb7.imp id fun e=>⟨_,e,Nat.le_refl _⟩)
      have h0:w.heap.size≤wr.heap.size:=L.out.only.size
      have h1:=HO456.out.size
      refine ⟨by have:wr.heap.size≤b:=hb.1;omega,by have:b < w4.heap.size:=hb.2;omega,fun e=>?_⟩
      have h3:=hown0 b e
      have:wr.heap.size≤b:=hb.1
      omega
   ·have hz0:z < 0:=by omega
    have HRE:=Hd (And.intro hRe hz)
    have KT:Calls Try.prog 66 #[.slice a ts.length cap,.int .i64 z,.string ⟨#[125]⟩] wr fun e w'=>e=.returned (.int .i64 z)∧wr=w':=by
     have:=reat_any (H.out.quiet L.out.only) (.error k) hk ⟨#[125]⟩
     rw [show zP (eatP ts (.error k) (⟨#[125]⟩:ByteArray).data.toList)=z from hz.symm,show zP (.error k)=z from hz.symm] at this
     exact this
    clear hz hRe
    go_wp2_with fail
    refine KT.mono ?_
    rintro e w' ⟨rfl,rfl⟩
    go_wp2_with fail
    go_ret2
    refine ⟨a8,l8,c8,?_,fun t i ht=>?_,L.out.only⟩
    ·rw [HRC.out,HRE.out.1,HRE.out.2]
     rfl
    ·rw [HRC.out,HRE.out.1] at ht
     cases ht
theorem rblock_step (f:Nat) (IS:∀ g,g < f→StmtC ts g):BlockC ts f:=by
 intro w v p dp h hp hf hdp
 cases p with
 | error k=>
  have:=rblock_go h (.error k) hp f dp hdp (fun e=>by cases e.2) (fun i hi=>by cases hi) IS
  exact this
 | ok i=>
  have hf1:=hf i rfl
  have hi:i < ts.length:=hp
  obtain ⟨f2,rfl⟩:∃ f2,f=f2+1:=⟨f - 1,by omega⟩
  show Calls _ _ _ _ (RBl w (blockR ts (f2+1) i dp))
  by_cases hx:isT ts i [123]=true
  ·have e1:eatP ts (.ok i) [123]=.ok (i+1):=by
    show eatT ts i [123]=_
    unfold eatT
    rw [if_pos hx]
   by_cases h12:12≤dp
   ·rw [blockR_no (fun _=>h12)]
    exact rblock_no h hi dp h12 hx
   ·rw [blockR_yes hx h12]
    have:=rblock_go h (.ok i) hp f2 dp hdp (fun e=>h12 e.1) (fun j hj=>by
     rw [e1] at hj
     cases hj
     exact ⟨by omega,by omega⟩) (fun g hg=>IS g (by omega))
    rw [e1] at this
    exact this
  ·have e1:eatP ts (.ok i) [123]=.error i:=by
    show eatT ts i [123]=_
    unfold eatT
    rw [if_neg hx]
   rw [blockR_no (fun e=>absurd e hx)]
   have:=rblock_go h (.ok i) hp f2 dp hdp (fun e=>hx e.2) (fun j hj=>by
    rw [e1] at hj
    cases hj) (fun g hg=>IS g (by omega))
   rw [e1] at this
   exact this
theorem stmt_all (ts:List Tok) (f:Nat):StmtC ts f∧BlockC ts f:=by
 induction f using Nat.strongRecOn with
 | _ f ih=>
  have hb:BlockC ts f:=rblock_step f (fun g hg=>(ih g hg).1)
  refine ⟨?_,hb⟩
  cases f with
  | zero=>intro w v i dp _ _ hf _;omega
  | succ f=>exact rstmt_step f (ih f (by omega)).2
theorem rstmt_any (h:TS w v ts) {i:Nat} (hi:i < ts.length) (dp:Nat) (hdp:dp≤12):Calls Try.prog 69 #[v,.int .i64 (i:Int),.int .i64 (dp:Int)] w (RSt w (stmtT ts i dp)):=
 (stmt_all ts _).1 w v i dp h hi (by omega) hdp
end
end Go.Proofs.Ytagkbbcpbebapaa
