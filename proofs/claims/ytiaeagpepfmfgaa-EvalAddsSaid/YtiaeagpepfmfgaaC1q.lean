import Derived.Test.YtiaeagpepfmfgaaWq
import Derived.Lib.ParseIntBTie
namespace Go.Proofs.Ytiaeagpepfmfgaa
set_option linter.unusedSimpArgs false
set_option linter.unusedVariables false
def isDig (c:UInt8):Bool:=decide (48≤c.toNat) && decide (c.toNat≤57)
def isLet (c:UInt8):Bool:=(decide (97≤c.toNat) && decide (c.toNat≤122)) || (decide (65≤c.toNat) && decide (c.toNat≤90))
def isWrd (c:UInt8):Bool:=(isLet c || isDig c) || decide (c.toNat=95)
def isRem (c:UInt8):Bool:=!decide (c.toNat=10)
def isBlk (c:UInt8):Bool:=decide (c.toNat=32) || decide (c.toNat=9) || decide (c.toNat=10)
def runN (p:UInt8→Bool):Sec→Nat
 | []=>0
 | c :: r=>if p c then runN p r+1 else 0
theorem runN_le (p:UInt8→Bool):∀ l,runN p l≤l.length
 | []=>Nat.le_refl _
 | c :: r=>by
  have:=runN_le p r
  simp only [runN,List.length_cons]
  split<;>omega
theorem runN_all (p:UInt8→Bool):∀ (l:Sec) (i:Nat) (c:UInt8),i < runN p l→l[i]?=some c→p c=true
 | [],i,c,h,hc=>by simp at hc
 | x :: r,i,c,h,hc=>by
  simp only [runN] at h
  split at h
  ·rename_i hx
   cases i with
   | zero=>simp at hc;rw [← hc];exact hx
   | succ i=>exact runN_all p r i c (by omega) (by simpa using hc)
  ·omega
theorem runN_end (p:UInt8→Bool):∀ (l:Sec) (c:UInt8),l[runN p l]?=some c→p c=false
 | [],c,hc=>by simp at hc
 | x :: r,c,hc=>by
  simp only [runN] at hc
  split at hc
  ·exact runN_end p r c (by simpa using hc)
  ·rename_i hx
   simp at hc
   rw [← hc]
   simpa using hx
theorem runN_take (p:UInt8→Bool):∀ (l:Sec) (m:Nat),runN p (l.take m)=min m (runN p l)
 | [],m=>by simp [runN]
 | c :: r,0=>by simp [runN]
 | c :: r,m+1=>by
  have:=runN_take p r m
  simp only [List.take_succ_cons,runN]
  split<;>omega
def gapN:Bool→Sec→Nat
 | _,[]=>0
 | true,c :: r=>gapN (isRem c) r+1
 | false,c :: r=>if isBlk c then gapN false r+1 else if c.toNat=35 then gapN true r+1 else 0
theorem gapN_rem:∀ l:Sec,gapN true l=runN isRem l+gapN false (l.drop (runN isRem l))
 | []=>rfl
 | c :: r=>by
  have ih:=gapN_rem r
  by_cases h:isRem c=true
  ·simp only [gapN,runN,h,if_true,List.drop_succ_cons]
   omega
  ·have hb:isBlk c=true:=by
    simp [isRem] at h
    simp [isBlk,h]
   simp only [gapN,runN,Bool.eq_false_iff.2 h,hb,if_true,Bool.false_eq_true,if_false,List.drop_zero]
   omega
theorem gapN_end:∀ (b:Bool) (l:Sec) (c:UInt8),l[gapN b l]?=some c→isBlk c=false∧c.toNat≠35
 | _,[],c,h=>by simp at h
 | true,x :: r,c,h=>gapN_end (isRem x) r c (by simpa [gapN] using h)
 | false,x :: r,c,h=>by
  simp only [gapN] at h
  split at h
  ·exact gapN_end false r c (by simpa using h)
  ·split at h
   ·exact gapN_end true r c (by simpa using h)
   ·rename_i h1 h2
    simp at h
    rw [← h]
    exact ⟨by simpa using h1,h2⟩
theorem gapN_none {c:UInt8} {r:Sec} (h:isBlk c=false) (h2:c.toNat≠35):gapN false (c :: r)=0:=by simp [gapN,h,h2]
def twos:List Sec:=[[43,61],[45,61],[60,62],[60,61],[62,61],[61,61],[33,61],[38,38],[124,124],[46,46]]
def ones:Sec:=[40,41,123,125,91,93,44,59,43,45,42,47,37,33,60,62,61]
def nameN (l:Sec):Nat:=if (l.head?.map isLet).getD false=true∧runN isWrd l≤16 then runN isWrd l else 0
def valN (acc:Nat):Sec→Nat
 | []=>acc
 | c :: r=>valN (acc*10+(c.toNat - 48)) r
def numN (l:Sec):Nat:=if (1 < runN isDig l∧l.head?=some 48)∨9223372036854775808≤valN 0 (l.take (runN isDig l)) then 0 else runN isDig l
def signN (l:Sec):Nat:=if twos.contains (l.take 2) then 2 else if (l.head?.map ones.contains).getD false then 1 else 0
def firstN (l:Sec):Nat×Nat:=if 0 < nameN l then (1,nameN l) else if 0 < numN l then (2,numN l) else (3,signN l)
theorem nameN_le (l:Sec):nameN l≤l.length:=by
 have:=runN_le isWrd l
 unfold nameN
 split<;>omega
theorem numN_le (l:Sec):numN l≤l.length:=by
 have:=runN_le isDig l
 unfold numN
 split<;>omega
theorem signN_le (l:Sec):signN l≤l.length:=by
 unfold signN
 split
 ·rename_i h
  match l with
  | []=>simp [twos] at h
  | [a]=>simp [twos] at h
  | a :: b :: r=>simp
 ·split
  ·rename_i h
   cases l with
   | nil=>simp at h
   | cons a r=>simp
  ·omega
theorem firstN_le (l:Sec):(firstN l).2≤l.length:=by
 have h1:=nameN_le l
 have h2:=numN_le l
 have h3:=signN_le l
 unfold firstN
 repeat' split
 all_goals omega
theorem firstN_kind (l:Sec):1≤(firstN l).1∧(firstN l).1≤3:=by
 unfold firstN
 repeat' split
 all_goals (dsimp only;omega)
structure Tok where
 kind:Nat
 text:Sec
 pos:Nat
def lexN:Nat→Nat→Sec→Except Nat (List Tok)
 | 0,at_,_=>.ok [⟨4,[],at_⟩]
 | n+1,at_,l=>
  if l=[] then .ok [⟨4,[],at_⟩]
  else if (firstN l).2=0 then .error at_
  else (lexN n (at_+(firstN l).2+gapN false (l.drop (firstN l).2)) (l.drop ((firstN l).2+gapN false (l.drop (firstN l).2)))).map (⟨(firstN l).1,l.take (firstN l).2,at_⟩ :: ·)
def lex (l:Sec):Except Nat (List Tok):=lexN (l.length+1) (gapN false l) (l.drop (gapN false l))
theorem lexN_more:∀ (n m at_:Nat) (l:Sec),l.length < n→l.length < m→lexN n at_ l=lexN m at_ l
 | 0,_,_,_,h,_=>by omega
 | _,0,_,_,_,h=>by omega
 | n+1,m+1,at_,l,h1,h2=>by
  simp only [lexN]
  split
  ·rfl
  ·split
   ·rfl
   ·have hl:=firstN_le l
    rw [lexN_more n m _ _ (by rw [List.length_drop];omega) (by rw [List.length_drop];omega)]
def lexG (at_:Nat) (l:Sec):Except Nat (List Tok):=lexN (l.length+1) (at_+gapN false l) (l.drop (gapN false l))
theorem lex_eq (l:Sec):lex l=lexG 0 l:=by simp [lex,lexG]
theorem lexG_nil (at_:Nat):lexG at_ []=.ok [⟨4,[],at_⟩]:=by simp [lexG,lexN,gapN]
theorem lexG_blank (at_:Nat) (c:UInt8) (r:Sec) (h:isBlk c=true):lexG at_ (c :: r)=lexG (at_+1) r:=by
 simp only [lexG,gapN,h,if_true,List.drop_succ_cons,List.length_cons]
 rw [show at_+(gapN false r+1)=at_+1+gapN false r by omega]
 exact lexN_more _ _ _ _ (by rw [List.length_drop];omega) (by rw [List.length_drop];omega)
theorem lexG_gap (at_:Nat) (l:Sec):lexG (at_+gapN false l) (l.drop (gapN false l))=lexG at_ l:=by
 have h:gapN false (l.drop (gapN false l))=0:=by
  cases h:l.drop (gapN false l) with
  | nil=>rfl
  | cons c r=>
   have hc:l[gapN false l]?=some c:=by rw [← List.head?_drop,h];rfl
   obtain ⟨h1,h2⟩:=gapN_end false l c hc
   exact gapN_none h1 h2
 simp only [lexG,h,Nat.add_zero,List.drop_zero]
 exact lexN_more _ _ _ _ (by rw [List.length_drop];omega) (by rw [List.length_drop];omega)
theorem lexG_step (at_:Nat) (c:UInt8) (r:Sec) (h1:isBlk c=false) (h2:c.toNat≠35) :
  lexG at_ (c :: r)=if (firstN (c :: r)).2=0 then .error at_ else (lexG (at_+(firstN (c :: r)).2) ((c :: r).drop (firstN (c :: r)).2)).map (⟨(firstN (c :: r)).1,(c :: r).take (firstN (c :: r)).2,at_⟩ :: ·):=by
 have hl:=firstN_le (c :: r)
 generalize hf:firstN (c :: r)=f at hl⊢
 conv=>lhs;simp only [lexG,gapN_none h1 h2,List.drop_zero,Nat.add_zero,List.length_cons];unfold lexN
 rw [if_neg (by simp),hf]
 split
 ·rfl
 ·rename_i hz
  simp only [lexG,← List.drop_drop]
  congr 1
  exact lexN_more _ _ _ _ (by simp only [List.length_drop,List.length_cons] at *;omega) (by simp only [List.length_drop];omega)
end Go.Proofs.Ytiaeagpepfmfgaa
