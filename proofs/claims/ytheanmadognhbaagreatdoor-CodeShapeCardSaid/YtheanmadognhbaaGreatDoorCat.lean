import Derived.Lib.ParseIntBTie
import Derived.Test.YtheanmadognhbaaGreatDoorBat
import Derived.LoopTactic
import Derived.Lib.IndexBytes
import Derived.Lib.ItoaWalk
import Derived.WalkMore
import Derived.Deep.LoopGhost
namespace Go.Proofs.YtheanmadognhbaaGreatDoor
set_option linter.unusedVariables false
set_option linter.unusedSimpArgs false
def aL (c:UInt8):Bool:=decide (48≤c.toNat) && decide (c.toNat≤57)
def dm (c:UInt8):Bool:=(decide (97≤c.toNat) && decide (c.toNat≤122)) || (decide (65≤c.toNat) && decide (c.toNat≤90))
def cX (c:UInt8):Bool:=(dm c || aL c) || decide (c.toNat=95)
def cj (c:UInt8):Bool:=!decide (c.toNat=10)
def eB (c:UInt8):Bool:=decide (c.toNat=32) || decide (c.toNat=9) || decide (c.toNat=10)
def bO (p:UInt8→Bool):Sec→Nat
 | []=>0
 | c :: r=>if p c then bO p r+1 else 0
theorem gY (p:UInt8→Bool):∀ l,bO p l≤l.length
 | []=>Nat.le_refl _
 | c :: r=>by
  have:=gY p r;simp only [bO,List.length_cons];split<;>omega
theorem lO (p:UInt8→Bool):∀ (l:Sec) (i:Nat) (c:UInt8),i < bO p l→l[i]?=some c→p c=true
 | [],i,c,h,hc=>by simp at hc
 | x :: r,i,c,h,hc=>by
  simp only [bO] at h;split at h
  ·rename_i hx;cases i with
   | zero=>simp at hc;rw [← hc];exact hx
   | succ i=>exact lO p r i c (by omega) (by simpa using hc)
  ·omega
theorem qr (p:UInt8→Bool):∀ (l:Sec) (c:UInt8),l[bO p l]?=some c→p c=false
 | [],c,hc=>by simp at hc
 | x :: r,c,hc=>by
  simp only [bO] at hc;split at hc
  ·exact qr p r c (by simpa using hc)
  ·rename_i hx;simp at hc;rw [← hc];simpa using hx
theorem fW (p:UInt8→Bool):∀ (l:Sec) (m:Nat),bO p (l.take m)=min m (bO p l)
 | [],m=>by simp [bO]
 | c :: r,0=>by simp [bO]
 | c :: r,m+1=>by
  have:=fW p r m;simp only [List.take_succ_cons,bO];split<;>omega
def br:Bool→Sec→Nat
 | _,[]=>0
 | true,c :: r=>br (cj c) r+1
 | false,c :: r=>if eB c then br false r+1 else if c.toNat=35 then br true r+1 else 0
theorem lP:∀ (b:Bool) (l:Sec),br b l≤l.length
 | b,[]=>by cases b<;>exact Nat.le_refl _
 | true,c :: r=>by have:=lP (cj c) r;simp only [br,List.length_cons];omega
 | false,c :: r=>by
  have h1:=lP false r;have h2:=lP true r;simp only [br,List.length_cons]
  repeat' split
  all_goals omega
theorem qs:∀ l:Sec,br true l=bO cj l+br false (l.drop (bO cj l))
 | []=>rfl
 | c :: r=>by
  have ih:=qs r
  by_cases h:cj c=true
  ·simp only [br,bO,h,if_true,List.drop_succ_cons];omega
  ·have hb:eB c=true:=by
    simp [cj] at h;simp [eB,h]
   simp only [br,bO,Bool.eq_false_iff.2 h,hb,if_true,Bool.false_eq_true,if_false,List.drop_zero];omega
theorem eU:∀ (b:Bool) (l:Sec) (c:UInt8),l[br b l]?=some c→eB c=false∧c.toNat≠35
 | _,[],c,h=>by simp at h
 | true,x :: r,c,h=>eU (cj x) r c (by simpa [br] using h)
 | false,x :: r,c,h=>by
  simp only [br] at h;split at h
  ·exact eU false r c (by simpa using h)
  ·split at h
   ·exact eU true r c (by simpa using h)
   ·rename_i h1 h2;simp at h;rw [← h];exact ⟨by simpa using h1,h2⟩
theorem mO {c:UInt8} {r:Sec} (h:eB c=false) (h2:c.toNat≠35):br false (c :: r)=0:=by simp [br,h,h2]
theorem eE:∀ (b:Bool) (l:Sec) (m:Nat),br b (l.take m)=min m (br b l)
 | b,[],m=>by cases b<;>simp [br]
 | b,c :: r,0=>by cases b<;>simp [br]
 | true,c :: r,m+1=>by
  have:=eE (cj c) r m;simp only [List.take_succ_cons,br];omega
 | false,c :: r,m+1=>by
  have h1:=eE false r m;have h2:=eE true r m;simp only [List.take_succ_cons,br]
  repeat' split
  all_goals omega
def twos:List Sec:=[[43,61],[45,61],[60,62],[60,61],[62,61],[61,61],[33,61],[38,38],[124,124],[46,46]]
def ones:Sec:=[40,41,123,125,91,93,44,59,43,45,42,47,37,33,60,62,61]
def dn (l:Sec):Nat:=if (l.head?.map dm).getD false=true∧bO cX l≤16 then bO cX l else 0
def iI (acc:Nat):Sec→Nat
 | []=>acc
 | c :: r=>iI (acc*10+(c.toNat - 48)) r
def jf (l:Sec):Nat:=if (1 < bO aL l∧l.head?=some 48)∨9223372036854775808≤iI 0 (l.take (bO aL l)) then 0 else bO aL l
def fp (l:Sec):Nat:=if twos.contains (l.take 2) then 2 else if (l.head?.map ones.contains).getD false then 1 else 0
def al (l:Sec):Nat×Nat:=if 0 < dn l then (1,dn l) else if 0 < jf l then (2,jf l) else (3,fp l)
theorem nameN_le (l:Sec):dn l≤l.length:=by
 have:=gY cX l;unfold dn;split<;>omega
theorem numN_le (l:Sec):jf l≤l.length:=by
 have:=gY aL l;unfold jf;split<;>omega
theorem qt (l:Sec):fp l≤l.length:=by
 unfold fp;split
 ·rename_i h
  match l with
  | []=>simp [twos] at h
  | [a]=>simp [twos] at h
  | a :: b :: r=>simp
 ·split
  ·rename_i h;cases l with
   | nil=>simp at h
   | cons a r=>simp
  ·omega
theorem jg (l:Sec):(al l).2≤l.length:=by
 have h1:=nameN_le l;have h2:=numN_le l;have h3:=qt l;unfold al
 repeat' split
 all_goals omega
theorem oV (l:Sec):1≤(al l).1∧(al l).1≤3:=by
 unfold al
 repeat' split
 all_goals (dsimp only;omega)
structure Tok where
 kind:Nat
 text:Sec
 pos:Nat
def kL:Nat→Nat→Sec→Except Nat (List Tok)
 | 0,at_,_=>.ok [⟨4,[],at_⟩]
 | n+1,at_,l=>
  if l=[] then .ok [⟨4,[],at_⟩]
  else if (al l).2=0 then .error at_
  else (kL n (at_+(al l).2+br false (l.drop (al l).2)) (l.drop ((al l).2+br false (l.drop (al l).2)))).map (⟨(al l).1,l.take (al l).2,at_⟩ :: ·)
def lex (l:Sec):Except Nat (List Tok):=kL (l.length+1) (br false l) (l.drop (br false l))
theorem jh:∀ (n m at_:Nat) (l:Sec),l.length < n→l.length < m→kL n at_ l=kL m at_ l
 | 0,_,_,_,h,_=>by omega
 | _,0,_,_,_,h=>by omega
 | n+1,m+1,at_,l,h1,h2=>by
  simp only [kL];split
  ·rfl
  ·split
   ·rfl
   ·have hl:=jg l;rw [jh n m _ _ (by rw [List.length_drop];omega) (by rw [List.length_drop];omega)]
def fq (at_:Nat) (l:Sec):Except Nat (List Tok):=kL (l.length+1) (at_+br false l) (l.drop (br false l))
theorem tY (l:Sec):lex l=fq 0 l:=by simp [lex,fq]
theorem lQ (at_:Nat):fq at_ []=.ok [⟨4,[],at_⟩]:=by simp [fq,kL,br]
theorem em (at_:Nat) (l:Sec):fq (at_+br false l) (l.drop (br false l))=fq at_ l:=by
 have h:br false (l.drop (br false l))=0:=by
  cases h:l.drop (br false l) with
  | nil=>rfl
  | cons c r=>
   have hc:l[br false l]?=some c:=by rw [← List.head?_drop,h];rfl
   obtain ⟨h1,h2⟩:=eU false l c hc;exact mO h1 h2
 simp only [fq,h,Nat.add_zero,List.drop_zero];exact jh _ _ _ _ (by rw [List.length_drop];omega) (by rw [List.length_drop];omega)
theorem ji (at_:Nat) (c:UInt8) (r:Sec) (h1:eB c=false) (h2:c.toNat≠35) :
  fq at_ (c :: r)=if (al (c :: r)).2=0 then .error at_ else (fq (at_+(al (c :: r)).2) ((c :: r).drop (al (c :: r)).2)).map (⟨(al (c :: r)).1,(c :: r).take (al (c :: r)).2,at_⟩ :: ·):=by
 have hl:=jg (c :: r);generalize hf:al (c :: r)=f at hl⊢
 conv=>lhs;simp only [fq,mO h1 h2,List.drop_zero,Nat.add_zero,List.length_cons];unfold kL
 rw [if_neg (by simp),hf];split
 ·rfl
 ·rename_i hz;simp only [fq,← List.drop_drop];congr 1;exact jh _ _ _ _ (by simp only [List.length_drop,List.length_cons] at *;omega) (by simp only [List.length_drop];omega)
open Go.RowKit Go.Maps
theorem fX (s:ByteArray) (k:Nat) (h:k < s.size):s.data.toList[k]?=some s[k]:=by
 rw [List.getElem?_eq_getElem (by simpa using h)];rfl
theorem aU (s:ByteArray):s.data.toList.length=s.size:=by simp [Array.length_toList]
theorem tZ {s:ByteArray} (h:s.size=0):s=⟨#[]⟩:=ByteArray.ext (Array.eq_empty_of_size_eq_zero h)
theorem lS {s:ByteArray} (h:0 < s.size):s.data.toList.head?=some s[0]:=by
 rw [List.head?_eq_getElem?];exact fX s 0 h
theorem aJ {s:ByteArray} {l:Sec}:s=⟨l.toArray⟩↔s.data.toList=l:=by
 constructor
 ·intro h;rw [h]
 ·intro h;apply ByteArray.ext;rw [← h]
theorem bw {s:ByteArray} {l:Sec} (h:s.data.toList≠l):(s.toList == l)=false:=by
 rw [ByteArray.toList_eq];simpa using h
theorem d5 (acc:Nat) (c:UInt8) (r:Sec):iI acc (c :: r)=iI (acc*10+(c.toNat - 48)) r:=by conv=>lhs;unfold iI
theorem eF {l:Sec} (h:l.take 2∈twos):fp l=2:=by
 unfold fp;rw [if_pos (by simpa using h)]
theorem cP {l:Sec} {c:UInt8} (h:l.take 2∉twos) (hc:l.head?=some c):fp l=if ones.contains c=true then 1 else 0:=by
 unfold fp;rw [if_neg (by simpa using h),hc];rfl
theorem dX {s:ByteArray} {l:Sec} (h:s.data.toList=l) (hn:l∉twos):∀ m∈twos,(s.toList == m)=false:=fun m hm=>bw (fun e=>hn (by rw [← h,e];exact hm))
theorem t8 {l:Sec} {k:Nat} {c:UInt8} (h:l[k]?=some c) (hb:eB c=true):br false (l.drop k)=1+br false (l.drop (k+1)):=by
 obtain ⟨hlt,hc⟩:=List.getElem?_eq_some_iff.1 h;rw [List.drop_eq_getElem_cons hlt,hc];simp only [br,hb,if_true];omega
theorem kM {l:Sec} {k:Nat} {c:UInt8} (h:l[k]?=some c) (hb:c.toNat=35):br false (l.drop k)=bO cj (l.drop k)+br false (l.drop (k+bO cj (l.drop k)))∧0 < bO cj (l.drop k):=by
 obtain ⟨hlt,hc⟩:=List.getElem?_eq_some_iff.1 h;have h1:eB c=false:=by simp [eB,hb]
 have h2:cj c=true:=by simp [cj,hb]
 have h3:=qs (l.drop (k+1));rw [List.drop_eq_getElem_cons hlt,hc];have e:bO cj (c :: l.drop (k+1))=bO cj (l.drop (k+1))+1:=by simp only [bO,h2,if_true]
 rw [e];rw [List.drop_drop] at h3;rw [show k+(bO cj (l.drop (k+1))+1)=k+1+bO cj (l.drop (k+1)) by omega];simp only [br,h1,hb,Bool.false_eq_true,if_false,if_true];omega
def tkv (l:List Tok):List Value:=(l.map fun x=>[Value.int .i64 (x.kind:Int),Value.string (ai x.text),Value.int .i64 (x.pos:Int)]).flatten
theorem tkv_snoc (l:List Tok) (x:Tok):tkv (l++[x])=tkv l++[.int .i64 (x.kind:Int),.string (ai x.text),.int .i64 (x.pos:Int)]:=by simp [tkv]
theorem ue:∀ (l:List Tok) (i:Nat) (x:Tok),l[i]?=some x→(tkv l)[i*3]?=some (.int .i64 (x.kind:Int))∧(tkv l)[i*3+1]?=some (.string (ai x.text))∧(tkv l)[i*3+2]?=some (.int .i64 (x.pos:Int))
 | [],i,p,h=>by simp at h
 | q :: l,0,p,h=>by
  simp at h;subst h;exact ⟨rfl,rfl,rfl⟩
 | q :: l,i+1,p,h=>by
  have:=ue l i p (by simpa using h);have e:(i+1)*3=i*3+1+1+1:=by omega
  rw [e];exact this
def TV (w:World) (v:Value) (l:List Tok):Prop:=
 ∃ (a:Option Addr) (cap:Nat),v=.slice a l.length cap∧l.length≤cap∧∀ i x,l[i]?=some x→∃ b,a=some ⟨b,0,none⟩∧w.cell? ⟨b,i*3,none⟩=some (.int .i64 (x.kind:Int))∧w.cell? ⟨b,i*3+1,none⟩=some (.string (ai x.text))∧w.cell? ⟨b,i*3+2,none⟩=some (.int .i64 (x.pos:Int))
theorem TV.quiet {w w':World} {v:Value} {l:List Tok} (h:TV w v l) (ho:Only [] w w'):TV w' v l:=by
 obtain ⟨a,cap,hv,hcap,hc⟩:=h;refine ⟨a,cap,hv,hcap,fun i x hi=>?_⟩;obtain ⟨b,ha,h1,h2,h3⟩:=hc i x hi;exact ⟨b,ha,ae ho h1 (by simp),ae ho h2 (by simp),ae ho h3 (by simp)⟩
theorem TV.at_ {w:World} {v:Value} {l:List Tok} (h:TV w v l) {i:Nat} {x:Tok} (hi:l[i]?=some x) :
  ∃ b cap,v=.slice (some ⟨b,0,none⟩) l.length cap∧l.length≤cap∧w.cell? ⟨b,i*3,none⟩=some (.int .i64 (x.kind:Int))∧w.cell? ⟨b,i*3+1,none⟩=some (.string (ai x.text))∧w.cell? ⟨b,i*3+2,none⟩=some (.int .i64 (x.pos:Int)):=by
 obtain ⟨a,cap,hv,hcap,hc⟩:=h;obtain ⟨b,rfl,h1,h2,h3⟩:=hc i x hi;exact ⟨b,cap,hv,hcap,h1,h2,h3⟩
theorem TV.nil (w:World):TV w (.slice none 0 0) []:=⟨none,0,rfl,Nat.le_refl _,fun i x h=>by simp at h⟩
theorem TV.first {w:World} {a:Option Addr} {n cap:Nat} {l:List Tok} (h:TV w (.slice a n cap) l) (k:Nat) (hk:k≤l.length):TV w (.slice a k cap) (l.take k):=by
 obtain ⟨a',cap',hv,hcap,hc⟩:=h;cases hv;have e:(l.take k).length=k:=by rw [List.length_take];omega
 refine ⟨a,cap,by rw [e],by omega,fun i x hi=>?_⟩;have hlt:=(List.getElem?_eq_some_iff.1 hi).1;rw [List.getElem?_take_of_lt (by omega)] at hi;exact hc i x hi
def OTk (w:World) (base:Nat) (v:Value) (l:List Tok):Prop:=w.ownsRow base 49 3 v l.length (tkv l)
section
variable {w w':World} {base:Nat} {v:Value} {l:List Tok}
theorem OTk.nil (w:World) (base:Nat):OTk w base (.slice none 0 0) []:=World.ownsRow_nil w base _ 3
theorem OTk.quiet (h:OTk w base v l) (ho:Only [] w w'):OTk w' base v l:=by
 refine ⟨h.1,?_⟩;rcases h.2 with hn | ⟨g,cap,cur,rfl,hb,hg,r⟩
 ·exact .inl hn
 ·exact .inr ⟨g,cap,cur,rfl,hb,ho.heap hg (by simp),r⟩
theorem OTk.tv (h:OTk w base v l):TV w v l:=by
 rcases h.2 with ⟨rfl,hn⟩ | ⟨g,cap,cur,rfl,hb,hg,hc,_,hz,ht⟩
 ·obtain rfl:l=[]:=List.eq_nil_of_length_eq_zero hn;exact TV.nil w
 ·refine ⟨_,cap,rfl,hc,fun i x hi=>?_⟩;have hlt:i < l.length:=(List.getElem?_eq_some_iff.1 hi).1;obtain ⟨h1,h2,h3⟩:=ue l i x hi;rw [← ht,List.getElem?_take_of_lt (by omega)] at h1 h2 h3;exact ⟨g,rfl,by rw [ab _ hg];simpa using h1,by rw [ab _ hg];simpa using h2,by rw [ab _ hg];simpa using h3⟩
theorem OTk.lt (h:OTk w base v l) {k:Nat} (hk:v.ownBlock=some k):base≤k∧k < w.heap.size:=World.ownsRow.lt h k hk
end
theorem info_tok:(Tryz.prog.info? 49).map (fun i=>(i.zero,i.size,i.bytes))=some (some (.agg #[.int .i64 0,.string ⟨#[]⟩,.int .i64 0]),3,32):=by kernel_rfl
theorem kt {w:World} (base:Nat) (ty:TypeId) (v:Value) (l:List Tok) (hown:OTk w base v l) (bx capx:Nat) (x:Tok) (h0:w.cell? ⟨bx,0,none⟩=some (.int .i64 (x.kind:Int))) (h1:w.cell? ⟨bx,1,none⟩=some (.string (ai x.text))) (h2:w.cell? ⟨bx,2,none⟩=some (.int .i64 (x.pos:Int))) (hn:l.length≤1048576) (hb:base≤w.heap.size) :
  ∃ a cap w',(Builtin.append_ #[45,45] ty #[v,.slice (some ⟨bx,0,none⟩) 1 capx]).run Tryz.prog w=.ok (.slice a (l.length+1) cap) w'∧OTk w' base (.slice a (l.length+1) cap) (l++[x])∧Only v.ownBlock.toList w w':=by
 obtain ⟨i,hi,hz⟩:=Option.map_eq_some_iff.1 info_tok;simp only [Prod.mk.injEq] at hz;obtain ⟨z1,z2,z3⟩:=hz;have hcell:∀ (j:Nat) (u:Value),([.int .i64 (x.kind:Int),.string (ai x.text),.int .i64 (x.pos:Int)]:List Value)[j]?=some u→w.cell? ((⟨bx,0,none⟩:Addr).add j)=some u:=fun j u hj=>by
  match j with
  | 0=>
   simp at hj;subst hj;have:(⟨bx,0,none⟩:Addr).add 0=⟨bx,0,none⟩:=by simp [Addr.add]
   rw [this];exact h0
  | 1=>
   simp at hj;subst hj;have:(⟨bx,0,none⟩:Addr).add 1=⟨bx,1,none⟩:=by simp [Addr.add]
   rw [this];exact h1
  | 2=>
   simp at hj;subst hj;have:(⟨bx,0,none⟩:Addr).add 2=⟨bx,2,none⟩:=by simp [Addr.add]
   rw [this];exact h2
  | j+3=>simp at hj
 obtain ⟨v',w',hr,k1,k2,_,k5⟩:=run_append_own_at (P:=Tryz.prog) w base 45 ty 49 i (.agg #[.int .i64 0,.string ⟨#[]⟩,.int .i64 0]) 3 32 Tryz.underlying45 hi z1 z2 z3 rfl (by omega) v l.length (tkv l) hown ⟨bx,0,none⟩ 1 capx [.int .i64 (x.kind:Int),.string (ai x.text),.int .i64 (x.pos:Int)] rfl hcell (by simp [Value.oneCell']) (by unfold maxLen;omega) (by omega) hb;have hsh:∃ a cap,v'=.slice a (l.length+1) cap:=by
  rcases k1.2 with ⟨_,hn⟩ | ⟨g,cap,cur,rfl,_⟩
  ·omega
  ·exact ⟨_,_,rfl⟩
 obtain ⟨a,cap,rfl⟩:=hsh;refine ⟨a,cap,w',hr,?_,Only.of_grown k2⟩;unfold OTk;rw [tkv_snoc,List.length_append];exact k1
section
variable {w:World} {ops:Array Oper} {rest:List Oper} {o:Oper} {a:Act} {Q:Exit→Act→World→Prop}
theorem bP (hg:o.guard=none) (s x:Operand) (hop:o.op=Op.call {callee:=Callee.builtin Builtin.append,args:=#[s,x],argTypes:=#[45,45] })
  (base:Nat) (v:Value) (l:List Tok) (hs:a.eval s=v) (hown:OTk w base v l) (bx capx:Nat) (hx:a.eval x=.slice (some ⟨bx,0,none⟩) 1 capx) (y:Tok) (h0:w.cell? ⟨bx,0,none⟩=some (.int .i64 (y.kind:Int))) (h1:w.cell? ⟨bx,1,none⟩=some (.string (ai y.text))) (h2:w.cell? ⟨bx,2,none⟩=some (.int .i64 (y.pos:Int))) (hn:l.length≤1048576) (hb:base≤w.heap.size)
  (hK:∀ v' w',OTk w' base v' (l++[y])→Only v.ownBlock.toList w w'→wpList Tryz.prog ops Q rest (a.put o.dst v') w') :
  wpList Tryz.prog ops Q (o :: rest) a w:=by
 refine wpList_plain hg fun K' hK'=>?_;obtain ⟨a',cap,w',hrun,k1,k2⟩:=kt base o.type v l hown bx capx y h0 h1 h2 hn hb;unfold Oper.wp;simp [execOp,hop,resolve,invoke,builtin,hs,hx,hrun,Result.andThen];exact hK' _ _ (hK _ w' k1 k2)
end
theorem fY (w:World) (k:Int) (t:ByteArray) (p:Int):(w.alloc (.cells #[.int .i64 k,.string t,.int .i64 p] 49)).cell? ⟨w.heap.size,0,none⟩=some (.int .i64 k)∧(w.alloc (.cells #[.int .i64 k,.string t,.int .i64 p] 49)).cell? ⟨w.heap.size,1,none⟩=some (.string t)∧(w.alloc (.cells #[.int .i64 k,.string t,.int .i64 p] 49)).cell? ⟨w.heap.size,2,none⟩=some (.int .i64 p):=by
 have h:=ag w (.cells #[.int .i64 k,.string t,.int .i64 p] 49);exact ⟨by rw [ab _ h];rfl,by rw [ab _ h];rfl,by rw [ab _ h];rfl⟩
def FaultIs (w:World) (ev:Value) (c p:Nat):Prop:=∃ g,ev=.iface 101 (.pointer (some ⟨g,0,none⟩))∧w.cell? ⟨g,0,none⟩=some (.int .i64 c)∧w.cell? ⟨g,1,none⟩=some (.int .i64 p)
theorem FaultIs.quiet {w w':World} {ev:Value} {c p:Nat} (h:FaultIs w ev c p) (ho:Only [] w w'):FaultIs w' ev c p:=by
 obtain ⟨g,rfl,h1,h2⟩:=h;exact ⟨g,rfl,ae ho h1 (by simp),ae ho h2 (by simp)⟩
theorem FaultIs.made (w:World) (c p:Nat):FaultIs (w.alloc (.cells #[.int .i64 c,.int .i64 p] 103)) (.iface 101 (.pointer (some ⟨w.heap.size,0,none⟩))) c p:=by
 have h:=ag w (.cells #[.int .i64 c,.int .i64 p] 103);exact ⟨_,rfl,by rw [ab _ h];rfl,by rw [ab _ h];rfl⟩
def TokRes (l:Sec) (base:Nat) (v ev:Value) (w':World):Prop:=
 (480 < l.length∧v=.slice none 0 0∧FaultIs w' ev 2 0)∨
 (l.length≤480∧∃ p,lex l=.error p∧v=.slice none 0 0∧FaultIs w' ev 7 p)∨
 (l.length≤480∧∃ ts,lex l=.ok ts∧ev=.nilIface∧OTk w' base v ts)
theorem ku {α:Type} (f g:List Tok→List Tok) (x:Except α (List Tok)):(x.map f).map g=x.map (g ∘ f):=by cases x<;>rfl
theorem uf {L:Sec} {k:Nat} {acc:List Tok} {c:UInt8} (hk:L[k]?=some c) (h1:eB c=false) (h2:c.toNat≠35) (h:lex L=(fq k (L.drop k)).map (acc++·)) :
  ((al (L.drop k)).2=0→lex L=.error k)∧((al (L.drop k)).2≠0→lex L=(fq (k+(al (L.drop k)).2+br false (L.drop (k+(al (L.drop k)).2))) (L.drop (k+(al (L.drop k)).2+br false (L.drop (k+(al (L.drop k)).2))))).map ((acc++[⟨(al (L.drop k)).1,(L.drop k).take (al (L.drop k)).2,k⟩])++·)):=by
 obtain ⟨hlt,hc⟩:=List.getElem?_eq_some_iff.1 hk;have hd:L.drop k=c :: L.drop (k+1):=by rw [List.drop_eq_getElem_cons hlt,hc]
 have hs:=ji k c (L.drop (k+1)) h1 h2;rw [← hd] at hs;constructor
 ·intro hz;rw [if_pos hz] at hs;rw [h,hs];rfl
 ·intro hz;rw [if_neg hz] at hs;rw [h,hs,ku];have hg:=em (k+(al (L.drop k)).2) (L.drop (k+(al (L.drop k)).2));rw [List.drop_drop] at hg;rw [hg,List.drop_drop];congr 1;funext x;simp
theorem TokRes.ok {l:Sec} {base:Nat} {v ev:Value} {w':World} {ts:List Tok} (h:TokRes l base v ev w') (hl:l.length≤480) (ht:lex l=.ok ts):ev=.nilIface∧OTk w' base v ts:=by
 rcases h with ⟨h,_⟩ | ⟨_,p,h,_⟩ | ⟨_,us,h,he,ho⟩
 ·omega
 ·rw [ht] at h;cases h
 ·rw [ht] at h;cases h;exact ⟨he,ho⟩
theorem TokRes.bad {l:Sec} {base:Nat} {v ev:Value} {w':World} {p:Nat} (h:TokRes l base v ev w') (hl:l.length≤480) (ht:lex l=.error p):v=.slice none 0 0∧FaultIs w' ev 7 p:=by
 rcases h with ⟨h,_⟩ | ⟨_,q,h,hv,hf⟩ | ⟨_,us,h,_⟩
 ·omega
 ·rw [ht] at h;cases h;exact ⟨hv,hf⟩
 ·rw [ht] at h;cases h
end Go.Proofs.YtheanmadognhbaaGreatDoor
