import Derived.Test.YtheanmadognhbaaGreatDoorWas
import Derived.Lib.ParseIntBTie
import Derived.Test.YtheanmadognhbaaGreatDoorBas
import Derived.LoopTactic
import Derived.Lib.IndexBytes
import Derived.Lib.ItoaWalk
import Derived.WalkMore
import Derived.Deep.LoopGhost
namespace Go.Proofs.YtheanmadognhbaaGreatDoor
set_option linter.unusedSimpArgs false
set_option linter.unusedVariables false
def isDig (c:UInt8):Bool:=decide (48≤c.toNat) && decide (c.toNat≤57)
def isLet (c:UInt8):Bool:=(decide (97≤c.toNat) && decide (c.toNat≤122)) || (decide (65≤c.toNat) && decide (c.toNat≤90))
def isWrd (c:UInt8):Bool:=(isLet c || isDig c) || decide (c.toNat=95)
def isRem (c:UInt8):Bool:=!decide (c.toNat=10)
def isBlk (c:UInt8):Bool:=decide (c.toNat=32) || decide (c.toNat=9) || decide (c.toNat=10)
def runN (p:UInt8→Bool):Sec→Nat
 | []=>0
 | c :: r=>if p c then runN p r+1 else 0
theorem runN_le (p:UInt8→Bool):∀ l,runN p l≤l.length
 | []=>Nat.le_refl _
 | c :: r=>by
  have:=runN_le p r
  simp only [runN,List.length_cons]
  split<;>omega
theorem runN_all (p:UInt8→Bool):∀ (l:Sec) (i:Nat) (c:UInt8),i < runN p l→l[i]?=some c→p c=true
 | [],i,c,h,hc=>by simp at hc
 | x :: r,i,c,h,hc=>by
  simp only [runN] at h
  split at h
  ·rename_i hx
   cases i with
   | zero=>simp at hc;rw [← hc];exact hx
   | succ i=>exact runN_all p r i c (by omega) (by simpa using hc)
  ·omega
theorem runN_end (p:UInt8→Bool):∀ (l:Sec) (c:UInt8),l[runN p l]?=some c→p c=false
 | [],c,hc=>by simp at hc
 | x :: r,c,hc=>by
  simp only [runN] at hc
  split at hc
  ·exact runN_end p r c (by simpa using hc)
  ·rename_i hx
   simp at hc
   rw [← hc]
   simpa using hx
theorem runN_take (p:UInt8→Bool):∀ (l:Sec) (m:Nat),runN p (l.take m)=min m (runN p l)
 | [],m=>by simp [runN]
 | c :: r,0=>by simp [runN]
 | c :: r,m+1=>by
  have:=runN_take p r m
  simp only [List.take_succ_cons,runN]
  split<;>omega
def gapN:Bool→Sec→Nat
 | _,[]=>0
 | true,c :: r=>gapN (isRem c) r+1
 | false,c :: r=>if isBlk c then gapN false r+1 else if c.toNat=35 then gapN true r+1 else 0
theorem gapN_le:∀ (b:Bool) (l:Sec),gapN b l≤l.length
 | b,[]=>by cases b<;>exact Nat.le_refl _
 | true,c :: r=>by have:=gapN_le (isRem c) r;simp only [gapN,List.length_cons];omega
 | false,c :: r=>by
  have h1:=gapN_le false r
  have h2:=gapN_le true r
  simp only [gapN,List.length_cons]
  repeat' split
  all_goals omega
theorem gapN_rem:∀ l:Sec,gapN true l=runN isRem l+gapN false (l.drop (runN isRem l))
 | []=>rfl
 | c :: r=>by
  have ih:=gapN_rem r
  by_cases h:isRem c=true
  ·simp only [gapN,runN,h,if_true,List.drop_succ_cons]
   omega
  ·have hb:isBlk c=true:=by
    simp [isRem] at h
    simp [isBlk,h]
   simp only [gapN,runN,Bool.eq_false_iff.2 h,hb,if_true,Bool.false_eq_true,if_false,List.drop_zero]
   omega
theorem gapN_end:∀ (b:Bool) (l:Sec) (c:UInt8),l[gapN b l]?=some c→isBlk c=false∧c.toNat≠35
 | _,[],c,h=>by simp at h
 | true,x :: r,c,h=>gapN_end (isRem x) r c (by simpa [gapN] using h)
 | false,x :: r,c,h=>by
  simp only [gapN] at h
  split at h
  ·exact gapN_end false r c (by simpa using h)
  ·split at h
   ·exact gapN_end true r c (by simpa using h)
   ·rename_i h1 h2
    simp at h
    rw [← h]
    exact ⟨by simpa using h1,h2⟩
theorem gapN_none {c:UInt8} {r:Sec} (h:isBlk c=false) (h2:c.toNat≠35):gapN false (c :: r)=0:=by simp [gapN,h,h2]
theorem gapN_take:∀ (b:Bool) (l:Sec) (m:Nat),gapN b (l.take m)=min m (gapN b l)
 | b,[],m=>by cases b<;>simp [gapN]
 | b,c :: r,0=>by cases b<;>simp [gapN]
 | true,c :: r,m+1=>by
  have:=gapN_take (isRem c) r m
  simp only [List.take_succ_cons,gapN]
  omega
 | false,c :: r,m+1=>by
  have h1:=gapN_take false r m
  have h2:=gapN_take true r m
  simp only [List.take_succ_cons,gapN]
  repeat' split
  all_goals omega
def twos:List Sec:=[[43,61],[45,61],[60,62],[60,61],[62,61],[61,61],[33,61],[38,38],[124,124],[46,46]]
def ones:Sec:=[40,41,123,125,91,93,44,59,43,45,42,47,37,33,60,62,61]
def nameN (l:Sec):Nat:=if (l.head?.map isLet).getD false=true∧runN isWrd l≤16 then runN isWrd l else 0
def valN (acc:Nat):Sec→Nat
 | []=>acc
 | c :: r=>valN (acc*10+(c.toNat - 48)) r
def numN (l:Sec):Nat:=if (1 < runN isDig l∧l.head?=some 48)∨9223372036854775808≤valN 0 (l.take (runN isDig l)) then 0 else runN isDig l
def signN (l:Sec):Nat:=if twos.contains (l.take 2) then 2 else if (l.head?.map ones.contains).getD false then 1 else 0
def firstN (l:Sec):Nat×Nat:=if 0 < nameN l then (1,nameN l) else if 0 < numN l then (2,numN l) else (3,signN l)
theorem nameN_le (l:Sec):nameN l≤l.length:=by
 have:=runN_le isWrd l
 unfold nameN
 split<;>omega
theorem numN_le (l:Sec):numN l≤l.length:=by
 have:=runN_le isDig l
 unfold numN
 split<;>omega
theorem signN_le (l:Sec):signN l≤l.length:=by
 unfold signN
 split
 ·rename_i h
  match l with
  | []=>simp [twos] at h
  | [a]=>simp [twos] at h
  | a :: b :: r=>simp
 ·split
  ·rename_i h
   cases l with
   | nil=>simp at h
   | cons a r=>simp
  ·omega
theorem firstN_le (l:Sec):(firstN l).2≤l.length:=by
 have h1:=nameN_le l
 have h2:=numN_le l
 have h3:=signN_le l
 unfold firstN
 repeat' split
 all_goals omega
theorem firstN_kind (l:Sec):1≤(firstN l).1∧(firstN l).1≤3:=by
 unfold firstN
 repeat' split
 all_goals (dsimp only;omega)
structure Tok where
 kind:Nat
 text:Sec
 pos:Nat
def lexN:Nat→Nat→Sec→Except Nat (List Tok)
 | 0,at_,_=>.ok [⟨4,[],at_⟩]
 | n+1,at_,l=>
  if l=[] then .ok [⟨4,[],at_⟩]
  else if (firstN l).2=0 then .error at_
  else (lexN n (at_+(firstN l).2+gapN false (l.drop (firstN l).2)) (l.drop ((firstN l).2+gapN false (l.drop (firstN l).2)))).map (⟨(firstN l).1,l.take (firstN l).2,at_⟩ :: ·)
def lex (l:Sec):Except Nat (List Tok):=lexN (l.length+1) (gapN false l) (l.drop (gapN false l))
theorem lexN_more:∀ (n m at_:Nat) (l:Sec),l.length < n→l.length < m→lexN n at_ l=lexN m at_ l
 | 0,_,_,_,h,_=>by omega
 | _,0,_,_,_,h=>by omega
 | n+1,m+1,at_,l,h1,h2=>by
  simp only [lexN]
  split
  ·rfl
  ·split
   ·rfl
   ·have hl:=firstN_le l
    rw [lexN_more n m _ _ (by rw [List.length_drop];omega) (by rw [List.length_drop];omega)]
def lexG (at_:Nat) (l:Sec):Except Nat (List Tok):=lexN (l.length+1) (at_+gapN false l) (l.drop (gapN false l))
theorem lex_eq (l:Sec):lex l=lexG 0 l:=by simp [lex,lexG]
theorem lexG_nil (at_:Nat):lexG at_ []=.ok [⟨4,[],at_⟩]:=by simp [lexG,lexN,gapN]
theorem lexG_blank (at_:Nat) (c:UInt8) (r:Sec) (h:isBlk c=true):lexG at_ (c :: r)=lexG (at_+1) r:=by
 simp only [lexG,gapN,h,if_true,List.drop_succ_cons,List.length_cons]
 rw [show at_+(gapN false r+1)=at_+1+gapN false r by omega]
 exact lexN_more _ _ _ _ (by rw [List.length_drop];omega) (by rw [List.length_drop];omega)
theorem lexG_gap (at_:Nat) (l:Sec):lexG (at_+gapN false l) (l.drop (gapN false l))=lexG at_ l:=by
 have h:gapN false (l.drop (gapN false l))=0:=by
  cases h:l.drop (gapN false l) with
  | nil=>rfl
  | cons c r=>
   have hc:l[gapN false l]?=some c:=by rw [← List.head?_drop,h];rfl
   obtain ⟨h1,h2⟩:=gapN_end false l c hc
   exact gapN_none h1 h2
 simp only [lexG,h,Nat.add_zero,List.drop_zero]
 exact lexN_more _ _ _ _ (by rw [List.length_drop];omega) (by rw [List.length_drop];omega)
theorem lexG_step (at_:Nat) (c:UInt8) (r:Sec) (h1:isBlk c=false) (h2:c.toNat≠35) :
  lexG at_ (c :: r)=if (firstN (c :: r)).2=0 then .error at_ else (lexG (at_+(firstN (c :: r)).2) ((c :: r).drop (firstN (c :: r)).2)).map (⟨(firstN (c :: r)).1,(c :: r).take (firstN (c :: r)).2,at_⟩ :: ·):=by
 have hl:=firstN_le (c :: r)
 generalize hf:firstN (c :: r)=f at hl⊢
 conv=>lhs;simp only [lexG,gapN_none h1 h2,List.drop_zero,Nat.add_zero,List.length_cons];unfold lexN
 rw [if_neg (by simp),hf]
 split
 ·rfl
 ·rename_i hz
  simp only [lexG,← List.drop_drop]
  congr 1
  exact lexN_more _ _ _ _ (by simp only [List.length_drop,List.length_cons] at *;omega) (by simp only [List.length_drop];omega)
end Go.Proofs.YtheanmadognhbaaGreatDoor
namespace Go.Proofs.YtheanmadognhbaaGreatDoor
open Go.RowKit Go.Maps
set_option linter.unusedSimpArgs false
set_option linter.unusedVariables false
theorem byteAt (s:ByteArray) (k:Nat) (h:k < s.size):s.data.toList[k]?=some s[k]:=by
 rw [List.getElem?_eq_getElem (by simpa using h)]
 rfl
theorem bytesLen (s:ByteArray):s.data.toList.length=s.size:=by simp [Array.length_toList]
end Go.Proofs.YtheanmadognhbaaGreatDoor
namespace Go.Proofs.YtheanmadognhbaaGreatDoor
open Go.RowKit Go.Maps
set_option linter.unusedSimpArgs false
set_option linter.unusedVariables false
theorem str_empty {s:ByteArray} (h:s.size=0):s=⟨#[]⟩:=ByteArray.ext (Array.eq_empty_of_size_eq_zero h)
theorem str_head {s:ByteArray} (h:0 < s.size):s.data.toList.head?=some s[0]:=by
 rw [List.head?_eq_getElem?]
 exact byteAt s 0 h
theorem str_eq_iff {s:ByteArray} {l:Sec}:s=⟨l.toArray⟩↔s.data.toList=l:=by
 constructor
 ·intro h
  rw [h]
 ·intro h
  apply ByteArray.ext
  rw [← h]
theorem str_neq {s:ByteArray} {l:Sec} (h:s.data.toList≠l):(s.toList == l)=false:=by
 rw [ByteArray.toList_eq]
 simpa using h
theorem valN_cons (acc:Nat) (c:UInt8) (r:Sec):valN acc (c :: r)=valN (acc*10+(c.toNat - 48)) r:=by conv=>lhs;unfold valN
end Go.Proofs.YtheanmadognhbaaGreatDoor
namespace Go.Proofs.YtheanmadognhbaaGreatDoor
open Go.RowKit Go.Maps
set_option linter.unusedSimpArgs false
set_option linter.unusedVariables false
theorem signN_two {l:Sec} (h:l.take 2∈twos):signN l=2:=by
 unfold signN
 rw [if_pos (by simpa using h)]
theorem signN_one {l:Sec} {c:UInt8} (h:l.take 2∉twos) (hc:l.head?=some c):signN l=if ones.contains c=true then 1 else 0:=by
 unfold signN
 rw [if_neg (by simpa using h),hc]
 rfl
theorem neq_two {s:ByteArray} {l:Sec} (h:s.data.toList=l) (hn:l∉twos):∀ m∈twos,(s.toList == m)=false:=fun m hm=>str_neq (fun e=>hn (by rw [← h,e];exact hm))
end Go.Proofs.YtheanmadognhbaaGreatDoor
namespace Go.Proofs.YtheanmadognhbaaGreatDoor
open Go.RowKit Go.Maps
set_option linter.unusedSimpArgs false
set_option linter.unusedVariables false
theorem gap_blank {l:Sec} {k:Nat} {c:UInt8} (h:l[k]?=some c) (hb:isBlk c=true):gapN false (l.drop k)=1+gapN false (l.drop (k+1)):=by
 obtain ⟨hlt,hc⟩:=List.getElem?_eq_some_iff.1 h
 rw [List.drop_eq_getElem_cons hlt,hc]
 simp only [gapN,hb,if_true]
 omega
theorem gap_remark {l:Sec} {k:Nat} {c:UInt8} (h:l[k]?=some c) (hb:c.toNat=35):gapN false (l.drop k)=runN isRem (l.drop k)+gapN false (l.drop (k+runN isRem (l.drop k)))∧0 < runN isRem (l.drop k):=by
 obtain ⟨hlt,hc⟩:=List.getElem?_eq_some_iff.1 h
 have h1:isBlk c=false:=by simp [isBlk,hb]
 have h2:isRem c=true:=by simp [isRem,hb]
 have h3:=gapN_rem (l.drop (k+1))
 rw [List.drop_eq_getElem_cons hlt,hc]
 have e:runN isRem (c :: l.drop (k+1))=runN isRem (l.drop (k+1))+1:=by simp only [runN,h2,if_true]
 rw [e]
 rw [List.drop_drop] at h3
 rw [show k+(runN isRem (l.drop (k+1))+1)=k+1+runN isRem (l.drop (k+1)) by omega]
 simp only [gapN,h1,hb,Bool.false_eq_true,if_false,if_true]
 omega
end Go.Proofs.YtheanmadognhbaaGreatDoor
namespace Go.Proofs.YtheanmadognhbaaGreatDoor
open Go.RowKit Go.Maps
set_option linter.unusedSimpArgs false
set_option linter.unusedVariables false
def tkv (l:List Tok):List Value:=(l.map fun x=>[Value.int .i64 (x.kind:Int),Value.string (strOf x.text),Value.int .i64 (x.pos:Int)]).flatten
theorem tkv_snoc (l:List Tok) (x:Tok):tkv (l++[x])=tkv l++[.int .i64 (x.kind:Int),.string (strOf x.text),.int .i64 (x.pos:Int)]:=by simp [tkv]
theorem tkv_get:∀ (l:List Tok) (i:Nat) (x:Tok),l[i]?=some x→(tkv l)[i*3]?=some (.int .i64 (x.kind:Int))∧(tkv l)[i*3+1]?=some (.string (strOf x.text))∧(tkv l)[i*3+2]?=some (.int .i64 (x.pos:Int))
 | [],i,p,h=>by simp at h
 | q :: l,0,p,h=>by
  simp at h
  subst h
  exact ⟨rfl,rfl,rfl⟩
 | q :: l,i+1,p,h=>by
  have:=tkv_get l i p (by simpa using h)
  have e:(i+1)*3=i*3+1+1+1:=by omega
  rw [e]
  exact this
def TV (w:World) (v:Value) (l:List Tok):Prop:=
 ∃ (a:Option Addr) (cap:Nat),v=.slice a l.length cap∧l.length≤cap∧∀ i x,l[i]?=some x→∃ b,a=some ⟨b,0,none⟩∧w.cell? ⟨b,i*3,none⟩=some (.int .i64 (x.kind:Int))∧w.cell? ⟨b,i*3+1,none⟩=some (.string (strOf x.text))∧w.cell? ⟨b,i*3+2,none⟩=some (.int .i64 (x.pos:Int))
theorem TV.quiet {w w':World} {v:Value} {l:List Tok} (h:TV w v l) (ho:Only [] w w'):TV w' v l:=by
 obtain ⟨a,cap,hv,hcap,hc⟩:=h
 refine ⟨a,cap,hv,hcap,fun i x hi=>?_⟩
 obtain ⟨b,ha,h1,h2,h3⟩:=hc i x hi
 exact ⟨b,ha,cell_kept ho h1 (by simp),cell_kept ho h2 (by simp),cell_kept ho h3 (by simp)⟩
theorem TV.at_ {w:World} {v:Value} {l:List Tok} (h:TV w v l) {i:Nat} {x:Tok} (hi:l[i]?=some x) :
  ∃ b cap,v=.slice (some ⟨b,0,none⟩) l.length cap∧l.length≤cap∧w.cell? ⟨b,i*3,none⟩=some (.int .i64 (x.kind:Int))∧w.cell? ⟨b,i*3+1,none⟩=some (.string (strOf x.text))∧w.cell? ⟨b,i*3+2,none⟩=some (.int .i64 (x.pos:Int)):=by
 obtain ⟨a,cap,hv,hcap,hc⟩:=h
 obtain ⟨b,rfl,h1,h2,h3⟩:=hc i x hi
 exact ⟨b,cap,hv,hcap,h1,h2,h3⟩
theorem TV.nil (w:World):TV w (.slice none 0 0) []:=⟨none,0,rfl,Nat.le_refl _,fun i x h=>by simp at h⟩
theorem TV.first {w:World} {a:Option Addr} {n cap:Nat} {l:List Tok} (h:TV w (.slice a n cap) l) (k:Nat) (hk:k≤l.length):TV w (.slice a k cap) (l.take k):=by
 obtain ⟨a',cap',hv,hcap,hc⟩:=h
 cases hv
 have e:(l.take k).length=k:=by rw [List.length_take];omega
 refine ⟨a,cap,by rw [e],by omega,fun i x hi=>?_⟩
 have hlt:=(List.getElem?_eq_some_iff.1 hi).1
 rw [List.getElem?_take_of_lt (by omega)] at hi
 exact hc i x hi
def OTk (w:World) (base:Nat) (v:Value) (l:List Tok):Prop:=w.ownsRow base 49 3 v l.length (tkv l)
section
variable {w w':World} {base:Nat} {v:Value} {l:List Tok}
theorem OTk.nil (w:World) (base:Nat):OTk w base (.slice none 0 0) []:=World.ownsRow_nil w base _ 3
theorem OTk.quiet (h:OTk w base v l) (ho:Only [] w w'):OTk w' base v l:=by
 refine ⟨h.1,?_⟩
 rcases h.2 with hn | ⟨g,cap,cur,rfl,hb,hg,r⟩
 ·exact .inl hn
 ·exact .inr ⟨g,cap,cur,rfl,hb,ho.heap hg (by simp),r⟩
theorem OTk.tv (h:OTk w base v l):TV w v l:=by
 rcases h.2 with ⟨rfl,hn⟩ | ⟨g,cap,cur,rfl,hb,hg,hc,_,hz,ht⟩
 ·obtain rfl:l=[]:=List.eq_nil_of_length_eq_zero hn
  exact TV.nil w
 ·refine ⟨_,cap,rfl,hc,fun i x hi=>?_⟩
  have hlt:i < l.length:=(List.getElem?_eq_some_iff.1 hi).1
  obtain ⟨h1,h2,h3⟩:=tkv_get l i x hi
  rw [← ht,List.getElem?_take_of_lt (by omega)] at h1 h2 h3
  exact ⟨g,rfl,by rw [cell_at _ hg];simpa using h1,by rw [cell_at _ hg];simpa using h2,by rw [cell_at _ hg];simpa using h3⟩
theorem OTk.lt (h:OTk w base v l) {k:Nat} (hk:v.ownBlock=some k):base≤k∧k < w.heap.size:=World.ownsRow.lt h k hk
end
theorem info_tok:(Tryz.prog.info? 49).map (fun i=>(i.zero,i.size,i.bytes))=some (some (.agg #[.int .i64 0,.string ⟨#[]⟩,.int .i64 0]),3,32):=by kernel_rfl
theorem run_append_tok {w:World} (base:Nat) (ty:TypeId) (v:Value) (l:List Tok) (hown:OTk w base v l) (bx capx:Nat) (x:Tok) (h0:w.cell? ⟨bx,0,none⟩=some (.int .i64 (x.kind:Int))) (h1:w.cell? ⟨bx,1,none⟩=some (.string (strOf x.text))) (h2:w.cell? ⟨bx,2,none⟩=some (.int .i64 (x.pos:Int))) (hn:l.length≤1048576) (hb:base≤w.heap.size) :
  ∃ a cap w',(Builtin.append_ #[45,45] ty #[v,.slice (some ⟨bx,0,none⟩) 1 capx]).run Tryz.prog w=.ok (.slice a (l.length+1) cap) w'∧OTk w' base (.slice a (l.length+1) cap) (l++[x])∧Only v.ownBlock.toList w w':=by
 obtain ⟨i,hi,hz⟩:=Option.map_eq_some_iff.1 info_tok
 simp only [Prod.mk.injEq] at hz
 obtain ⟨z1,z2,z3⟩:=hz
 have hcell:∀ (j:Nat) (u:Value),([.int .i64 (x.kind:Int),.string (strOf x.text),.int .i64 (x.pos:Int)]:List Value)[j]?=some u→w.cell? ((⟨bx,0,none⟩:Addr).add j)=some u:=fun j u hj=>by
  match j with
  | 0=>
   simp at hj
   subst hj
   have:(⟨bx,0,none⟩:Addr).add 0=⟨bx,0,none⟩:=by simp [Addr.add]
   rw [this]
   exact h0
  | 1=>
   simp at hj
   subst hj
   have:(⟨bx,0,none⟩:Addr).add 1=⟨bx,1,none⟩:=by simp [Addr.add]
   rw [this]
   exact h1
  | 2=>
   simp at hj
   subst hj
   have:(⟨bx,0,none⟩:Addr).add 2=⟨bx,2,none⟩:=by simp [Addr.add]
   rw [this]
   exact h2
  | j+3=>simp at hj
 obtain ⟨v',w',hr,k1,k2,_,k5⟩:=run_append_own_at (P:=Tryz.prog) w base 45 ty 49 i (.agg #[.int .i64 0,.string ⟨#[]⟩,.int .i64 0]) 3 32 Tryz.underlying45 hi z1 z2 z3 rfl (by omega) v l.length (tkv l) hown ⟨bx,0,none⟩ 1 capx [.int .i64 (x.kind:Int),.string (strOf x.text),.int .i64 (x.pos:Int)] rfl hcell (by simp [Value.oneCell']) (by unfold maxLen;omega) (by omega) hb
 have hsh:∃ a cap,v'=.slice a (l.length+1) cap:=by
  rcases k1.2 with ⟨_,hn⟩ | ⟨g,cap,cur,rfl,_⟩
  ·omega
  ·exact ⟨_,_,rfl⟩
 obtain ⟨a,cap,rfl⟩:=hsh
 refine ⟨a,cap,w',hr,?_,Only.of_grown k2⟩
 unfold OTk
 rw [tkv_snoc,List.length_append]
 exact k1
section
variable {w:World} {ops:Array Oper} {rest:List Oper} {o:Oper} {a:Act} {Q:Exit→Act→World→Prop}
theorem wpList_append_tok (hg:o.guard=none) (s x:Operand) (hop:o.op=Op.call {callee:=Callee.builtin Builtin.append,args:=#[s,x],argTypes:=#[45,45] })
  (base:Nat) (v:Value) (l:List Tok) (hs:a.eval s=v) (hown:OTk w base v l) (bx capx:Nat) (hx:a.eval x=.slice (some ⟨bx,0,none⟩) 1 capx) (y:Tok) (h0:w.cell? ⟨bx,0,none⟩=some (.int .i64 (y.kind:Int))) (h1:w.cell? ⟨bx,1,none⟩=some (.string (strOf y.text))) (h2:w.cell? ⟨bx,2,none⟩=some (.int .i64 (y.pos:Int))) (hn:l.length≤1048576) (hb:base≤w.heap.size)
  (hK:∀ v' w',OTk w' base v' (l++[y])→Only v.ownBlock.toList w w'→wpList Tryz.prog ops Q rest (a.put o.dst v') w') :
  wpList Tryz.prog ops Q (o :: rest) a w:=by
 refine wpList_plain hg fun K' hK'=>?_
 obtain ⟨a',cap,w',hrun,k1,k2⟩:=run_append_tok base o.type v l hown bx capx y h0 h1 h2 hn hb
 unfold Oper.wp
 simp [execOp,hop,resolve,invoke,builtin,hs,hx,hrun,Result.andThen]
 exact hK' _ _ (hK _ w' k1 k2)
end
theorem tok_cells (w:World) (k:Int) (t:ByteArray) (p:Int):(w.alloc (.cells #[.int .i64 k,.string t,.int .i64 p] 49)).cell? ⟨w.heap.size,0,none⟩=some (.int .i64 k)∧(w.alloc (.cells #[.int .i64 k,.string t,.int .i64 p] 49)).cell? ⟨w.heap.size,1,none⟩=some (.string t)∧(w.alloc (.cells #[.int .i64 k,.string t,.int .i64 p] 49)).cell? ⟨w.heap.size,2,none⟩=some (.int .i64 p):=by
 have h:=heap_new w (.cells #[.int .i64 k,.string t,.int .i64 p] 49)
 exact ⟨by rw [cell_at _ h];rfl,by rw [cell_at _ h];rfl,by rw [cell_at _ h];rfl⟩
def FaultIs (w:World) (ev:Value) (c p:Nat):Prop:=∃ g,ev=.iface 101 (.pointer (some ⟨g,0,none⟩))∧w.cell? ⟨g,0,none⟩=some (.int .i64 c)∧w.cell? ⟨g,1,none⟩=some (.int .i64 p)
theorem FaultIs.quiet {w w':World} {ev:Value} {c p:Nat} (h:FaultIs w ev c p) (ho:Only [] w w'):FaultIs w' ev c p:=by
 obtain ⟨g,rfl,h1,h2⟩:=h
 exact ⟨g,rfl,cell_kept ho h1 (by simp),cell_kept ho h2 (by simp)⟩
theorem FaultIs.made (w:World) (c p:Nat):FaultIs (w.alloc (.cells #[.int .i64 c,.int .i64 p] 103)) (.iface 101 (.pointer (some ⟨w.heap.size,0,none⟩))) c p:=by
 have h:=heap_new w (.cells #[.int .i64 c,.int .i64 p] 103)
 exact ⟨_,rfl,by rw [cell_at _ h];rfl,by rw [cell_at _ h];rfl⟩
def TokRes (l:Sec) (base:Nat) (v ev:Value) (w':World):Prop:=
 (480 < l.length∧v=.slice none 0 0∧FaultIs w' ev 2 0)∨
 (l.length≤480∧∃ p,lex l=.error p∧v=.slice none 0 0∧FaultIs w' ev 7 p)∨
 (l.length≤480∧∃ ts,lex l=.ok ts∧ev=.nilIface∧OTk w' base v ts)
theorem except_map_map {α:Type} (f g:List Tok→List Tok) (x:Except α (List Tok)):(x.map f).map g=x.map (g ∘ f):=by cases x<;>rfl
theorem lexG_on {L:Sec} {k:Nat} {acc:List Tok} {c:UInt8} (hk:L[k]?=some c) (h1:isBlk c=false) (h2:c.toNat≠35) (h:lex L=(lexG k (L.drop k)).map (acc++·)) :
  ((firstN (L.drop k)).2=0→lex L=.error k)∧((firstN (L.drop k)).2≠0→lex L=(lexG (k+(firstN (L.drop k)).2+gapN false (L.drop (k+(firstN (L.drop k)).2))) (L.drop (k+(firstN (L.drop k)).2+gapN false (L.drop (k+(firstN (L.drop k)).2))))).map ((acc++[⟨(firstN (L.drop k)).1,(L.drop k).take (firstN (L.drop k)).2,k⟩])++·)):=by
 obtain ⟨hlt,hc⟩:=List.getElem?_eq_some_iff.1 hk
 have hd:L.drop k=c :: L.drop (k+1):=by rw [List.drop_eq_getElem_cons hlt,hc]
 have hs:=lexG_step k c (L.drop (k+1)) h1 h2
 rw [← hd] at hs
 constructor
 ·intro hz
  rw [if_pos hz] at hs
  rw [h,hs]
  rfl
 ·intro hz
  rw [if_neg hz] at hs
  rw [h,hs,except_map_map]
  have hg:=lexG_gap (k+(firstN (L.drop k)).2) (L.drop (k+(firstN (L.drop k)).2))
  rw [List.drop_drop] at hg
  rw [hg,List.drop_drop]
  congr 1
  funext x
  simp
end Go.Proofs.YtheanmadognhbaaGreatDoor
namespace Go.Proofs.YtheanmadognhbaaGreatDoor
open Go.RowKit Go.Maps
set_option linter.unusedSimpArgs false
set_option linter.unusedVariables false
end Go.Proofs.YtheanmadognhbaaGreatDoor
namespace Go.Proofs.YtheanmadognhbaaGreatDoor
open Go.RowKit Go.Maps
set_option linter.unusedSimpArgs false
set_option linter.unusedVariables false
theorem TokRes.ok {l:Sec} {base:Nat} {v ev:Value} {w':World} {ts:List Tok} (h:TokRes l base v ev w') (hl:l.length≤480) (ht:lex l=.ok ts):ev=.nilIface∧OTk w' base v ts:=by
 rcases h with ⟨h,_⟩ | ⟨_,p,h,_⟩ | ⟨_,us,h,he,ho⟩
 ·omega
 ·rw [ht] at h
  cases h
 ·rw [ht] at h
  cases h
  exact ⟨he,ho⟩
theorem TokRes.bad {l:Sec} {base:Nat} {v ev:Value} {w':World} {p:Nat} (h:TokRes l base v ev w') (hl:l.length≤480) (ht:lex l=.error p):v=.slice none 0 0∧FaultIs w' ev 7 p:=by
 rcases h with ⟨h,_⟩ | ⟨_,q,h,hv,hf⟩ | ⟨_,us,h,_⟩
 ·omega
 ·rw [ht] at h
  cases h
  exact ⟨hv,hf⟩
 ·rw [ht] at h
  cases h
end Go.Proofs.YtheanmadognhbaaGreatDoor
