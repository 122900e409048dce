import Derived.Lib.ParseIntBTie
import Derived.Test.YtcebchffcmpfeaaGreatBat
import Derived.LoopTactic
import Derived.Lib.IndexBytes
import Derived.Lib.ItoaWalk
import Derived.WalkMore
import Derived.Deep.LoopGhost
namespace Go.Proofs.YtcebchffcmpfeaaGreat
set_option linter.unusedVariables false
set_option linter.unusedSimpArgs false
def aK (c:UInt8):Bool:=decide (48≤c.toNat) && decide (c.toNat≤57)
def cQ (c:UInt8):Bool:=(decide (97≤c.toNat) && decide (c.toNat≤122)) || (decide (65≤c.toNat) && decide (c.toNat≤90))
def cx (c:UInt8):Bool:=(cQ c || aK c) || decide (c.toNat=95)
def bV (c:UInt8):Bool:=!decide (c.toNat=10)
def ej (c:UInt8):Bool:=decide (c.toNat=32) || decide (c.toNat=9) || decide (c.toNat=10)
def bF (p:UInt8→Bool):Sec→Nat
 | []=>0
 | c :: r=>if p c then bF p r+1 else 0
theorem gX (p:UInt8→Bool):∀ l,bF p l≤l.length
 | []=>Nat.le_refl _
 | c :: r=>by
  have:=gX p r;simp only [bF,List.length_cons];split<;>omega
theorem lG (p:UInt8→Bool):∀ (l:Sec) (i:Nat) (c:UInt8),i < bF p l→l[i]?=some c→p c=true
 | [],i,c,h,hc=>by simp at hc
 | x :: r,i,c,h,hc=>by
  simp only [bF] at h;split at h
  ·rename_i hx;cases i with
   | zero=>simp at hc;rw [← hc];exact hx
   | succ i=>exact lG p r i c (by omega) (by simpa using hc)
  ·omega
theorem qK (p:UInt8→Bool):∀ (l:Sec) (c:UInt8),l[bF p l]?=some c→p c=false
 | [],c,hc=>by simp at hc
 | x :: r,c,hc=>by
  simp only [bF] at hc;split at hc
  ·exact qK p r c (by simpa using hc)
  ·rename_i hx;simp at hc;rw [← hc];simpa using hx
theorem fR (p:UInt8→Bool):∀ (l:Sec) (m:Nat),bF p (l.take m)=min m (bF p l)
 | [],m=>by simp [bF]
 | c :: r,0=>by simp [bF]
 | c :: r,m+1=>by
  have:=fR p r m;simp only [List.take_succ_cons,bF];split<;>omega
def bh:Bool→Sec→Nat
 | _,[]=>0
 | true,c :: r=>bh (bV c) r+1
 | false,c :: r=>if ej c then bh false r+1 else if c.toNat=35 then bh true r+1 else 0
theorem lH:∀ (b:Bool) (l:Sec),bh b l≤l.length
 | b,[]=>by cases b<;>exact Nat.le_refl _
 | true,c :: r=>by have:=lH (bV c) r;simp only [bh,List.length_cons];omega
 | false,c :: r=>by
  have h1:=lH false r;have h2:=lH true r;simp only [bh,List.length_cons]
  repeat' split
  all_goals omega
theorem qL:∀ l:Sec,bh true l=bF bV l+bh false (l.drop (bF bV l))
 | []=>rfl
 | c :: r=>by
  have ih:=qL r
  by_cases h:bV c=true
  ·simp only [bh,bF,h,if_true,List.drop_succ_cons];omega
  ·have hb:ej c=true:=by
    simp [bV] at h;simp [ej,h]
   simp only [bh,bF,Bool.eq_false_iff.2 h,hb,if_true,Bool.false_eq_true,if_false,List.drop_zero];omega
theorem eI:∀ (b:Bool) (l:Sec) (c:UInt8),l[bh b l]?=some c→ej c=false∧c.toNat≠35
 | _,[],c,h=>by simp at h
 | true,x :: r,c,h=>eI (bV x) r c (by simpa [bh] using h)
 | false,x :: r,c,h=>by
  simp only [bh] at h;split at h
  ·exact eI false r c (by simpa using h)
  ·split at h
   ·exact eI true r c (by simpa using h)
   ·rename_i h1 h2;simp at h;rw [← h];exact ⟨by simpa using h1,h2⟩
theorem mK {c:UInt8} {r:Sec} (h:ej c=false) (h2:c.toNat≠35):bh false (c :: r)=0:=by simp [bh,h,h2]
theorem ep:∀ (b:Bool) (l:Sec) (m:Nat),bh b (l.take m)=min m (bh b l)
 | b,[],m=>by cases b<;>simp [bh]
 | b,c :: r,0=>by cases b<;>simp [bh]
 | true,c :: r,m+1=>by
  have:=ep (bV c) r m;simp only [List.take_succ_cons,bh];omega
 | false,c :: r,m+1=>by
  have h1:=ep false r m;have h2:=ep true r m;simp only [List.take_succ_cons,bh]
  repeat' split
  all_goals omega
def twos:List Sec:=[[43,61],[45,61],[60,62],[60,61],[62,61],[61,61],[33,61],[38,38],[124,124],[46,46]]
def ones:Sec:=[40,41,123,125,91,93,44,59,43,45,42,47,37,33,60,62,61]
def cR (l:Sec):Nat:=if (l.head?.map cQ).getD false=true∧bF cx l≤16 then bF cx l else 0
def iM (acc:Nat):Sec→Nat
 | []=>acc
 | c :: r=>iM (acc*10+(c.toNat - 48)) r
def jg (l:Sec):Nat:=if (1 < bF aK l∧l.head?=some 48)∨9223372036854775808≤iM 0 (l.take (bF aK l)) then 0 else bF aK l
def fh (l:Sec):Nat:=if twos.contains (l.take 2) then 2 else if (l.head?.map ones.contains).getD false then 1 else 0
def al (l:Sec):Nat×Nat:=if 0 < cR l then (1,cR l) else if 0 < jg l then (2,jg l) else (3,fh l)
theorem nameN_le (l:Sec):cR l≤l.length:=by
 have:=gX cx l;unfold cR;split<;>omega
theorem numN_le (l:Sec):jg l≤l.length:=by
 have:=gX aK l;unfold jg;split<;>omega
theorem qM (l:Sec):fh l≤l.length:=by
 unfold fh;split
 ·rename_i h
  match l with
  | []=>simp [twos] at h
  | [a]=>simp [twos] at h
  | a :: b :: r=>simp
 ·split
  ·rename_i h;cases l with
   | nil=>simp at h
   | cons a r=>simp
  ·omega
theorem jh (l:Sec):(al l).2≤l.length:=by
 have h1:=nameN_le l;have h2:=numN_le l;have h3:=qM l;unfold al
 repeat' split
 all_goals omega
theorem pi (l:Sec):1≤(al l).1∧(al l).1≤3:=by
 unfold al
 repeat' split
 all_goals (dsimp only;omega)
structure Tok where
 kind:Nat
 text:Sec
 pos:Nat
def kI:Nat→Nat→Sec→Except Nat (List Tok)
 | 0,at_,_=>.ok [⟨4,[],at_⟩]
 | n+1,at_,l=>
  if l=[] then .ok [⟨4,[],at_⟩]
  else if (al l).2=0 then .error at_
  else (kI n (at_+(al l).2+bh false (l.drop (al l).2)) (l.drop ((al l).2+bh false (l.drop (al l).2)))).map (⟨(al l).1,l.take (al l).2,at_⟩ :: ·)
def lex (l:Sec):Except Nat (List Tok):=kI (l.length+1) (bh false l) (l.drop (bh false l))
theorem ji:∀ (n m at_:Nat) (l:Sec),l.length < n→l.length < m→kI n at_ l=kI m at_ l
 | 0,_,_,_,h,_=>by omega
 | _,0,_,_,_,h=>by omega
 | n+1,m+1,at_,l,h1,h2=>by
  simp only [kI];split
  ·rfl
  ·split
   ·rfl
   ·have hl:=jh l;rw [ji n m _ _ (by rw [List.length_drop];omega) (by rw [List.length_drop];omega)]
def fi (at_:Nat) (l:Sec):Except Nat (List Tok):=kI (l.length+1) (at_+bh false l) (l.drop (bh false l))
theorem uh (l:Sec):lex l=fi 0 l:=by simp [lex,fi]
theorem lI (at_:Nat):fi at_ []=.ok [⟨4,[],at_⟩]:=by simp [fi,kI,bh]
theorem dT (at_:Nat) (l:Sec):fi (at_+bh false l) (l.drop (bh false l))=fi at_ l:=by
 have h:bh false (l.drop (bh false l))=0:=by
  cases h:l.drop (bh false l) with
  | nil=>rfl
  | cons c r=>
   have hc:l[bh false l]?=some c:=by rw [← List.head?_drop,h];rfl
   obtain ⟨h1,h2⟩:=eI false l c hc;exact mK h1 h2
 simp only [fi,h,Nat.add_zero,List.drop_zero];exact ji _ _ _ _ (by rw [List.length_drop];omega) (by rw [List.length_drop];omega)
theorem jj (at_:Nat) (c:UInt8) (r:Sec) (h1:ej c=false) (h2:c.toNat≠35) :
  fi at_ (c :: r)=if (al (c :: r)).2=0 then .error at_ else (fi (at_+(al (c :: r)).2) ((c :: r).drop (al (c :: r)).2)).map (⟨(al (c :: r)).1,(c :: r).take (al (c :: r)).2,at_⟩ :: ·):=by
 have hl:=jh (c :: r);generalize hf:al (c :: r)=f at hl⊢
 conv=>lhs;simp only [fi,mK h1 h2,List.drop_zero,Nat.add_zero,List.length_cons];unfold kI
 rw [if_neg (by simp),hf];split
 ·rfl
 ·rename_i hz;simp only [fi,← List.drop_drop];congr 1;exact ji _ _ _ _ (by simp only [List.length_drop,List.length_cons] at *;omega) (by simp only [List.length_drop];omega)
open Go.RowKit Go.Maps
theorem fS (s:ByteArray) (k:Nat) (h:k < s.size):s.data.toList[k]?=some s[k]:=by
 rw [List.getElem?_eq_getElem (by simpa using h)];rfl
theorem aQ (s:ByteArray):s.data.toList.length=s.size:=by simp [Array.length_toList]
theorem ui {s:ByteArray} (h:s.size=0):s=⟨#[]⟩:=ByteArray.ext (Array.eq_empty_of_size_eq_zero h)
theorem lJ {s:ByteArray} (h:0 < s.size):s.data.toList.head?=some s[0]:=by
 rw [List.head?_eq_getElem?];exact fS s 0 h
theorem bk {s:ByteArray} {l:Sec}:s=⟨l.toArray⟩↔s.data.toList=l:=by
 constructor
 ·intro h;rw [h]
 ·intro h;apply ByteArray.ext;rw [← h]
theorem fy {s:ByteArray} {l:Sec} (h:s.data.toList≠l):(s.toList == l)=false:=by
 rw [ByteArray.toList_eq];simpa using h
theorem dA (acc:Nat) (c:UInt8) (r:Sec):iM acc (c :: r)=iM (acc*10+(c.toNat - 48)) r:=by conv=>lhs;unfold iM
theorem eq {l:Sec} (h:l.take 2∈twos):fh l=2:=by
 unfold fh;rw [if_pos (by simpa using h)]
theorem co {l:Sec} {c:UInt8} (h:l.take 2∉twos) (hc:l.head?=some c):fh l=if ones.contains c=true then 1 else 0:=by
 unfold fh;rw [if_neg (by simpa using h),hc];rfl
theorem du {s:ByteArray} {l:Sec} (h:s.data.toList=l) (hn:l∉twos):∀ m∈twos,(s.toList == m)=false:=fun m hm=>fy (fun e=>hn (by rw [← h,e];exact hm))
theorem uk {l:Sec} {k:Nat} {c:UInt8} (h:l[k]?=some c) (hb:ej c=true):bh false (l.drop k)=1+bh false (l.drop (k+1)):=by
 obtain ⟨hlt,hc⟩:=List.getElem?_eq_some_iff.1 h;rw [List.drop_eq_getElem_cons hlt,hc];simp only [bh,hb,if_true];omega
theorem kJ {l:Sec} {k:Nat} {c:UInt8} (h:l[k]?=some c) (hb:c.toNat=35):bh false (l.drop k)=bF bV (l.drop k)+bh false (l.drop (k+bF bV (l.drop k)))∧0 < bF bV (l.drop k):=by
 obtain ⟨hlt,hc⟩:=List.getElem?_eq_some_iff.1 h;have h1:ej c=false:=by simp [ej,hb]
 have h2:bV c=true:=by simp [bV,hb]
 have h3:=qL (l.drop (k+1));rw [List.drop_eq_getElem_cons hlt,hc];have e:bF bV (c :: l.drop (k+1))=bF bV (l.drop (k+1))+1:=by simp only [bF,h2,if_true]
 rw [e];rw [List.drop_drop] at h3;rw [show k+(bF bV (l.drop (k+1))+1)=k+1+bF bV (l.drop (k+1)) by omega];simp only [bh,h1,hb,Bool.false_eq_true,if_false,if_true];omega
def tkv (l:List Tok):List Value:=(l.map fun x=>[Value.int .i64 (x.kind:Int),Value.string (aj x.text),Value.int .i64 (x.pos:Int)]).flatten
theorem tkv_snoc (l:List Tok) (x:Tok):tkv (l++[x])=tkv l++[.int .i64 (x.kind:Int),.string (aj x.text),.int .i64 (x.pos:Int)]:=by simp [tkv]
theorem ul:∀ (l:List Tok) (i:Nat) (x:Tok),l[i]?=some x→(tkv l)[i*3]?=some (.int .i64 (x.kind:Int))∧(tkv l)[i*3+1]?=some (.string (aj x.text))∧(tkv l)[i*3+2]?=some (.int .i64 (x.pos:Int))
 | [],i,p,h=>by simp at h
 | q :: l,0,p,h=>by
  simp at h;subst h;exact ⟨rfl,rfl,rfl⟩
 | q :: l,i+1,p,h=>by
  have:=ul l i p (by simpa using h);have e:(i+1)*3=i*3+1+1+1:=by omega
  rw [e];exact this
def TV (w:World) (v:Value) (l:List Tok):Prop:=
 ∃ (a:Option Addr) (cap:Nat),v=.slice a l.length cap∧l.length≤cap∧∀ i x,l[i]?=some x→∃ b,a=some ⟨b,0,none⟩∧w.cell? ⟨b,i*3,none⟩=some (.int .i64 (x.kind:Int))∧w.cell? ⟨b,i*3+1,none⟩=some (.string (aj x.text))∧w.cell? ⟨b,i*3+2,none⟩=some (.int .i64 (x.pos:Int))
theorem TV.quiet {w w':World} {v:Value} {l:List Tok} (h:TV w v l) (ho:Only [] w w'):TV w' v l:=by
 obtain ⟨a,cap,hv,hcap,hc⟩:=h;refine ⟨a,cap,hv,hcap,fun i x hi=>?_⟩;obtain ⟨b,ha,h1,h2,h3⟩:=hc i x hi;exact ⟨b,ha,ac ho h1 (by simp),ac ho h2 (by simp),ac ho h3 (by simp)⟩
theorem TV.at_ {w:World} {v:Value} {l:List Tok} (h:TV w v l) {i:Nat} {x:Tok} (hi:l[i]?=some x) :
  ∃ b cap,v=.slice (some ⟨b,0,none⟩) l.length cap∧l.length≤cap∧w.cell? ⟨b,i*3,none⟩=some (.int .i64 (x.kind:Int))∧w.cell? ⟨b,i*3+1,none⟩=some (.string (aj x.text))∧w.cell? ⟨b,i*3+2,none⟩=some (.int .i64 (x.pos:Int)):=by
 obtain ⟨a,cap,hv,hcap,hc⟩:=h;obtain ⟨b,rfl,h1,h2,h3⟩:=hc i x hi;exact ⟨b,cap,hv,hcap,h1,h2,h3⟩
theorem TV.nil (w:World):TV w (.slice none 0 0) []:=⟨none,0,rfl,Nat.le_refl _,fun i x h=>by simp at h⟩
theorem TV.first {w:World} {a:Option Addr} {n cap:Nat} {l:List Tok} (h:TV w (.slice a n cap) l) (k:Nat) (hk:k≤l.length):TV w (.slice a k cap) (l.take k):=by
 obtain ⟨a',cap',hv,hcap,hc⟩:=h;cases hv;have e:(l.take k).length=k:=by rw [List.length_take];omega
 refine ⟨a,cap,by rw [e],by omega,fun i x hi=>?_⟩;have hlt:=(List.getElem?_eq_some_iff.1 hi).1;rw [List.getElem?_take_of_lt (by omega)] at hi;exact hc i x hi
def OTk (w:World) (base:Nat) (v:Value) (l:List Tok):Prop:=w.ownsRow base 84 3 v l.length (tkv l)
section
variable {w w':World} {base:Nat} {v:Value} {l:List Tok}
theorem OTk.nil (w:World) (base:Nat):OTk w base (.slice none 0 0) []:=World.ownsRow_nil w base _ 3
theorem OTk.quiet (h:OTk w base v l) (ho:Only [] w w'):OTk w' base v l:=by
 refine ⟨h.1,?_⟩;rcases h.2 with hn | ⟨g,cap,cur,rfl,hb,hg,r⟩
 ·exact .inl hn
 ·exact .inr ⟨g,cap,cur,rfl,hb,ho.heap hg (by simp),r⟩
theorem OTk.tv (h:OTk w base v l):TV w v l:=by
 rcases h.2 with ⟨rfl,hn⟩ | ⟨g,cap,cur,rfl,hb,hg,hc,_,hz,ht⟩
 ·obtain rfl:l=[]:=List.eq_nil_of_length_eq_zero hn;exact TV.nil w
 ·refine ⟨_,cap,rfl,hc,fun i x hi=>?_⟩;have hlt:i < l.length:=(List.getElem?_eq_some_iff.1 hi).1;obtain ⟨h1,h2,h3⟩:=ul l i x hi;rw [← ht,List.getElem?_take_of_lt (by omega)] at h1 h2 h3;exact ⟨g,rfl,by rw [ab _ hg];simpa using h1,by rw [ab _ hg];simpa using h2,by rw [ab _ hg];simpa using h3⟩
theorem OTk.lt (h:OTk w base v l) {k:Nat} (hk:v.ownBlock=some k):base≤k∧k < w.heap.size:=World.ownsRow.lt h k hk
end
theorem info_tok:(Tryz.prog.info? 84).map (fun i=>(i.zero,i.size,i.bytes))=some (some (.agg #[.int .i64 0,.string ⟨#[]⟩,.int .i64 0]),3,32):=by kernel_rfl
theorem kx {w:World} (base:Nat) (ty:TypeId) (v:Value) (l:List Tok) (hown:OTk w base v l) (bx capx:Nat) (x:Tok) (h0:w.cell? ⟨bx,0,none⟩=some (.int .i64 (x.kind:Int))) (h1:w.cell? ⟨bx,1,none⟩=some (.string (aj x.text))) (h2:w.cell? ⟨bx,2,none⟩=some (.int .i64 (x.pos:Int))) (hn:l.length≤1048576) (hb:base≤w.heap.size) :
  ∃ a cap w',(Builtin.append_ #[78,78] ty #[v,.slice (some ⟨bx,0,none⟩) 1 capx]).run Tryz.prog w=.ok (.slice a (l.length+1) cap) w'∧OTk w' base (.slice a (l.length+1) cap) (l++[x])∧Only v.ownBlock.toList w w':=by
 obtain ⟨i,hi,hz⟩:=Option.map_eq_some_iff.1 info_tok;simp only [Prod.mk.injEq] at hz;obtain ⟨z1,z2,z3⟩:=hz;have hcell:∀ (j:Nat) (u:Value),([.int .i64 (x.kind:Int),.string (aj x.text),.int .i64 (x.pos:Int)]:List Value)[j]?=some u→w.cell? ((⟨bx,0,none⟩:Addr).add j)=some u:=fun j u hj=>by
  match j with
  | 0=>
   simp at hj;subst hj;have:(⟨bx,0,none⟩:Addr).add 0=⟨bx,0,none⟩:=by simp [Addr.add]
   rw [this];exact h0
  | 1=>
   simp at hj;subst hj;have:(⟨bx,0,none⟩:Addr).add 1=⟨bx,1,none⟩:=by simp [Addr.add]
   rw [this];exact h1
  | 2=>
   simp at hj;subst hj;have:(⟨bx,0,none⟩:Addr).add 2=⟨bx,2,none⟩:=by simp [Addr.add]
   rw [this];exact h2
  | j+3=>simp at hj
 obtain ⟨v',w',hr,k1,k2,_,k5⟩:=run_append_own_at (P:=Tryz.prog) w base 78 ty 84 i (.agg #[.int .i64 0,.string ⟨#[]⟩,.int .i64 0]) 3 32 Tryz.underlying78 hi z1 z2 z3 rfl (by omega) v l.length (tkv l) hown ⟨bx,0,none⟩ 1 capx [.int .i64 (x.kind:Int),.string (aj x.text),.int .i64 (x.pos:Int)] rfl hcell (by simp [Value.oneCell']) (by unfold maxLen;omega) (by omega) hb;have hsh:∃ a cap,v'=.slice a (l.length+1) cap:=by
  rcases k1.2 with ⟨_,hn⟩ | ⟨g,cap,cur,rfl,_⟩
  ·omega
  ·exact ⟨_,_,rfl⟩
 obtain ⟨a,cap,rfl⟩:=hsh;refine ⟨a,cap,w',hr,?_,Only.of_grown k2⟩;unfold OTk;rw [tkv_snoc,List.length_append];exact k1
section
variable {w:World} {ops:Array Oper} {rest:List Oper} {o:Oper} {a:Act} {Q:Exit→Act→World→Prop}
theorem bG (hg:o.guard=none) (s x:Operand) (hop:o.op=Op.call {callee:=Callee.builtin Builtin.append,args:=#[s,x],argTypes:=#[78,78] })
  (base:Nat) (v:Value) (l:List Tok) (hs:a.eval s=v) (hown:OTk w base v l) (bx capx:Nat) (hx:a.eval x=.slice (some ⟨bx,0,none⟩) 1 capx) (y:Tok) (h0:w.cell? ⟨bx,0,none⟩=some (.int .i64 (y.kind:Int))) (h1:w.cell? ⟨bx,1,none⟩=some (.string (aj y.text))) (h2:w.cell? ⟨bx,2,none⟩=some (.int .i64 (y.pos:Int))) (hn:l.length≤1048576) (hb:base≤w.heap.size)
  (hK:∀ v' w',OTk w' base v' (l++[y])→Only v.ownBlock.toList w w'→wpList Tryz.prog ops Q rest (a.put o.dst v') w') :
  wpList Tryz.prog ops Q (o :: rest) a w:=by
 refine wpList_plain hg fun K' hK'=>?_;obtain ⟨a',cap,w',hrun,k1,k2⟩:=kx base o.type v l hown bx capx y h0 h1 h2 hn hb;unfold Oper.wp;simp [execOp,hop,resolve,invoke,builtin,hs,hx,hrun,Result.andThen];exact hK' _ _ (hK _ w' k1 k2)
end
theorem fT (w:World) (k:Int) (t:ByteArray) (p:Int):(w.alloc (.cells #[.int .i64 k,.string t,.int .i64 p] 84)).cell? ⟨w.heap.size,0,none⟩=some (.int .i64 k)∧(w.alloc (.cells #[.int .i64 k,.string t,.int .i64 p] 84)).cell? ⟨w.heap.size,1,none⟩=some (.string t)∧(w.alloc (.cells #[.int .i64 k,.string t,.int .i64 p] 84)).cell? ⟨w.heap.size,2,none⟩=some (.int .i64 p):=by
 have h:=ag w (.cells #[.int .i64 k,.string t,.int .i64 p] 84);exact ⟨by rw [ab _ h];rfl,by rw [ab _ h];rfl,by rw [ab _ h];rfl⟩
def FaultIs (w:World) (ev:Value) (c p:Nat):Prop:=∃ g,ev=.iface 117 (.pointer (some ⟨g,0,none⟩))∧w.cell? ⟨g,0,none⟩=some (.int .i64 c)∧w.cell? ⟨g,1,none⟩=some (.int .i64 p)
theorem FaultIs.quiet {w w':World} {ev:Value} {c p:Nat} (h:FaultIs w ev c p) (ho:Only [] w w'):FaultIs w' ev c p:=by
 obtain ⟨g,rfl,h1,h2⟩:=h;exact ⟨g,rfl,ac ho h1 (by simp),ac ho h2 (by simp)⟩
theorem FaultIs.made (w:World) (c p:Nat):FaultIs (w.alloc (.cells #[.int .i64 c,.int .i64 p] 119)) (.iface 117 (.pointer (some ⟨w.heap.size,0,none⟩))) c p:=by
 have h:=ag w (.cells #[.int .i64 c,.int .i64 p] 119);exact ⟨_,rfl,by rw [ab _ h];rfl,by rw [ab _ h];rfl⟩
def TokRes (l:Sec) (base:Nat) (v ev:Value) (w':World):Prop:=
 (480 < l.length∧v=.slice none 0 0∧FaultIs w' ev 2 0)∨
 (l.length≤480∧∃ p,lex l=.error p∧v=.slice none 0 0∧FaultIs w' ev 7 p)∨
 (l.length≤480∧∃ ts,lex l=.ok ts∧ev=.nilIface∧OTk w' base v ts)
theorem ky {α:Type} (f g:List Tok→List Tok) (x:Except α (List Tok)):(x.map f).map g=x.map (g ∘ f):=by cases x<;>rfl
theorem um {L:Sec} {k:Nat} {acc:List Tok} {c:UInt8} (hk:L[k]?=some c) (h1:ej c=false) (h2:c.toNat≠35) (h:lex L=(fi k (L.drop k)).map (acc++·)) :
  ((al (L.drop k)).2=0→lex L=.error k)∧((al (L.drop k)).2≠0→lex L=(fi (k+(al (L.drop k)).2+bh false (L.drop (k+(al (L.drop k)).2))) (L.drop (k+(al (L.drop k)).2+bh false (L.drop (k+(al (L.drop k)).2))))).map ((acc++[⟨(al (L.drop k)).1,(L.drop k).take (al (L.drop k)).2,k⟩])++·)):=by
 obtain ⟨hlt,hc⟩:=List.getElem?_eq_some_iff.1 hk;have hd:L.drop k=c :: L.drop (k+1):=by rw [List.drop_eq_getElem_cons hlt,hc]
 have hs:=jj k c (L.drop (k+1)) h1 h2;rw [← hd] at hs;constructor
 ·intro hz;rw [if_pos hz] at hs;rw [h,hs];rfl
 ·intro hz;rw [if_neg hz] at hs;rw [h,hs,ky];have hg:=dT (k+(al (L.drop k)).2) (L.drop (k+(al (L.drop k)).2));rw [List.drop_drop] at hg;rw [hg,List.drop_drop];congr 1;funext x;simp
theorem TokRes.ok {l:Sec} {base:Nat} {v ev:Value} {w':World} {ts:List Tok} (h:TokRes l base v ev w') (hl:l.length≤480) (ht:lex l=.ok ts):ev=.nilIface∧OTk w' base v ts:=by
 rcases h with ⟨h,_⟩ | ⟨_,p,h,_⟩ | ⟨_,us,h,he,ho⟩
 ·omega
 ·rw [ht] at h;cases h
 ·rw [ht] at h;cases h;exact ⟨he,ho⟩
theorem TokRes.bad {l:Sec} {base:Nat} {v ev:Value} {w':World} {p:Nat} (h:TokRes l base v ev w') (hl:l.length≤480) (ht:lex l=.error p):v=.slice none 0 0∧FaultIs w' ev 7 p:=by
 rcases h with ⟨h,_⟩ | ⟨_,q,h,hv,hf⟩ | ⟨_,us,h,_⟩
 ·omega
 ·rw [ht] at h;cases h;exact ⟨hv,hf⟩
 ·rw [ht] at h;cases h
end Go.Proofs.YtcebchffcmpfeaaGreat
