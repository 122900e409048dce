import Derived.Test.YtiaeagpepfmfgaaG2q
import Derived.Test.YtiaeagpepfmfgaaC14q
namespace Go.Proofs.Ytiaeagpepfmfgaa
open Go.RowKit Go.Maps
set_option linter.unusedSimpArgs false
set_option linter.unusedVariables false
def zP (p:Except Nat Nat):Int:=match p with | .ok a=>(a:Int) | .error k=>-1 - (k:Int)
def PosOk (ts:List Tok) (p:Except Nat Nat):Prop:=match p with | .ok a=>a < ts.length | .error k=>k < ts.length
def isP (ts:List Tok) (p:Except Nat Nat) (x:Sec):Bool:=match p with | .ok i=>isT ts i x | .error _=>false
def eatP (ts:List Tok) (p:Except Nat Nat) (x:Sec):Except Nat Nat:=match p with | .ok i=>eatT ts i x | .error k=>.error k
structure TS (w:World) (v:Value) (ts:List Tok):Prop where
 tv:TV w v ts
 ends:Ends ts
 len:ts.length≤1000
 txt:∀ i,(xAt ts i).length≤1000
section
variable {w w':World} {v:Value} {ts:List Tok}
theorem TS.quiet (h:TS w v ts) (ho:Only [] w w'):TS w' v ts:=⟨h.tv.quiet ho,h.ends,h.len,h.txt⟩
theorem TS.at_ (h:TS w v ts) {i:Nat} (hi:i < ts.length):∃ b cap,v=.slice (some ⟨b,0,none⟩) ts.length cap∧w.cell? ⟨b,i*3,none⟩=some (.int .i64 (kAt ts i:Nat))∧w.cell? ⟨b,i*3+1,none⟩=some (.string (strOf (xAt ts i)))∧w.cell? ⟨b,i*3+2,none⟩=some (.int .i64 (pAt ts i:Nat)):=by
 obtain ⟨a,cap,hv,_,hc⟩:=h.tv
 obtain ⟨t,ht⟩:∃ t,ts[i]?=some t:=⟨_,List.getElem?_eq_getElem hi⟩
 obtain ⟨b,rfl,c0,c1,c2⟩:=hc i t ht
 refine ⟨b,cap,hv,?_,?_,?_⟩
 ·unfold kAt;rw [ht];exact c0
 ·unfold xAt;rw [ht];exact c1
 ·unfold pAt;rw [ht];exact c2
theorem TS.shape (h:TS w v ts):∃ a cap,v=.slice a ts.length cap:=by
 obtain ⟨a,cap,hv,_⟩:=h.tv
 exact ⟨a,cap,hv⟩
theorem eatP_ok (he:Ends ts) {p:Except Nat Nat} (hp:PosOk ts p) (x:Sec):PosOk ts (eatP ts p x):=by
 cases p with
 | error k=>exact hp
 | ok i=>
  have h:=eatT_adv he x hp
  show PosOk ts (eatT ts i x)
  cases e:eatT ts i x with
  | error k=>rw [e] at h;obtain rfl:k=i:=h;exact hp
  | ok a=>rw [e] at h;exact h.2
theorem rbad_any (n:Nat) (hn:n≤1000) (w:World):Calls Try.prog 19 #[.int .i64 (n:Int)] w fun e w'=>e=.returned (.int .i64 (-1 - (n:Int)))∧w=w':=by
 have h1:IntKind.i64.wrap (-1 - (n:Int))=-1 - (n:Int):=by rw [IntKind.wrap_i64];omega
 go_enter Try.func19,Try.ntmps19
 go_wp2_with fail
 go_ret
 exact ⟨rfl,rfl⟩
theorem str_dec {x:ByteArray} {X:Sec} {S:ByteArray} (hS:S=strOf X):(S.toList == x.toList)=decide (X=x.data.toList):=by
 rw [ByteArray.toList_eq,ByteArray.toList_eq,hS]
 have h2:(strOf X).data.toList=X:=by simp [strOf]
 rw [h2]
 by_cases h:X=x.data.toList<;>simp [h]
theorem ris_any (h:TS w v ts) (p:Except Nat Nat) (hp:PosOk ts p) (x:ByteArray) :
  Calls Try.prog 42 #[v,.int .i64 (zP p),.string x] w fun e w'=>e=.returned (.bool (isP ts p x.data.toList))∧w=w':=by
 have hlen:=h.len
 cases p with
 | error k=>
  obtain ⟨a,cap,rfl⟩:=h.shape
  obtain ⟨y,hy⟩:∃ y:Int,zP (.error k)=y:=⟨_,rfl⟩
  have hy0:y < 0:=by
   rw [← hy]
   show -1 - (k:Int) < 0
   omega
  rw [hy]
  clear h hp hy
  go_enter Try.func42,Try.ntmps42
  go_wp2_with fail
  go_ret
  exact ⟨rfl,rfl⟩
 | ok i=>
  have hi:i < ts.length:=hp
  obtain ⟨b,cap,rfl,c0,c1,-⟩:=h.at_ hi
  show Calls _ _ #[_,.int .i64 (i:Int),_] _ _
  have e1:isP ts (.ok i) x.data.toList=(kAt ts i != 4 && xAt ts i == x.data.toList):=rfl
  rw [e1]
  obtain ⟨k,hk⟩:∃ k,kAt ts i=k:=⟨_,rfl⟩
  obtain ⟨S,hS⟩:∃ S,S=strOf (xAt ts i):=⟨_,rfl⟩
  rw [hk] at c0⊢
  have hq:=str_dec (x:=x) hS
  rw [← hS] at c1
  have i0:(0:Int)≤(i:Int):=by omega
  have i1:(i:Int) < (ts.length:Int):=by omega
  have hx:(xAt ts i == x.data.toList)=decide (xAt ts i=x.data.toList):=by
   by_cases e:xAt ts i=x.data.toList<;>simp [e]
  rw [hx]
  generalize decide (xAt ts i=x.data.toList)=d at hq⊢
  clear h hp hS hk hi e1 hx
  by_cases hk4:k=4
  ·subst hk4
   go_enter Try.func42,Try.ntmps42
   go_wp2_with fail
   go_ret
   exact ⟨rfl,rfl⟩
  ·have hk5:(k != 4)=true:=by simpa using hk4
   have hk6:((k:Int) != 4)=true:=by simp;omega
   rw [hk5]
   go_enter Try.func42,Try.ntmps42
   go_wp2_with fail
   go_ret
   exact ⟨rfl,rfl⟩
theorem reat_any (h:TS w v ts) (p:Except Nat Nat) (hp:PosOk ts p) (x:ByteArray) :
  Calls Try.prog 41 #[v,.int .i64 (zP p),.string x] w fun e w'=>e=.returned (.int .i64 (zP (eatP ts p x.data.toList)))∧w=w':=by
 have hlen:=h.len
 have K:=ris_any h p hp x
 obtain ⟨a,cap,rfl⟩:=h.shape
 cases p with
 | error k=>
  clear K
  show Calls _ _ #[_,.int .i64 (zP (.error k)),_] _ (fun e w'=>e=.returned (.int .i64 (zP (.error k)))∧w=w')
  obtain ⟨y,hy⟩:∃ y:Int,zP (.error k)=y:=⟨_,rfl⟩
  have hy0:y < 0:=by
   rw [← hy]
   show -1 - (k:Int) < 0
   omega
  rw [hy]
  clear h hp hy
  go_enter Try.func41,Try.ntmps41
  go_wp2_with fail
  go_ret
  exact ⟨rfl,rfl⟩
 | ok i=>
  have hi:i < ts.length:=hp
  have KB:=rbad_any i (by omega) w
  show Calls _ _ #[_,.int .i64 (i:Int),_] _ (fun e w'=>e=.returned (.int .i64 (zP (eatT ts i x.data.toList)))∧w=w')
  have e1:zP (eatT ts i x.data.toList)=if isT ts i x.data.toList=true then (i:Int)+1 else -1 - (i:Int):=by
   unfold eatT
   split
   ·show ((i+1:Nat):Int)=_
    omega
   ·rfl
  rw [e1]
  have K':Calls Try.prog 42 #[.slice a ts.length cap,.int .i64 (i:Int),.string x] w fun e w'=>e=.returned (.bool (isT ts i x.data.toList))∧w=w':=K
  generalize isT ts i x.data.toList=d at K'⊢
  have hb:¬ (i:Int) < 0:=by omega
  clear h hp e1 K
  cases d
  ·rw [if_neg (by decide)]
   go_enter Try.func41,Try.ntmps41
   go_wp2_with fail
   refine K'.mono ?_
   rintro e w' ⟨rfl,rfl⟩
   go_wp2_with fail
   refine KB.mono ?_
   rintro e w' ⟨rfl,rfl⟩
   go_wp2_with fail
   go_ret
   exact ⟨rfl,rfl⟩
  ·rw [if_pos rfl]
   go_enter Try.func41,Try.ntmps41
   go_wp2_with fail
   refine K'.mono ?_
   rintro e w' ⟨rfl,rfl⟩
   go_wp2_with fail
   go_ret
   exact ⟨rfl,rfl⟩
def zR {α:Type} (r:Except Nat (α×Nat)):Int:=match r with | .ok (_,a)=>(a:Int) | .error k=>-1 - (k:Int)
def wordP (ts:List Tok) (p:Except Nat Nat):Except Nat (Sec×Nat):=match p with | .ok i=>wordT ts i | .error k=>.error k
def numP (ts:List Tok) (p:Except Nat Nat):Except Nat (Int×Nat):=match p with | .ok i=>numT ts i | .error k=>.error k
def nextP {α:Type} (r:Except Nat (α×Nat)):Except Nat Nat:=match r with | .ok (_,a)=>.ok a | .error k=>.error k
theorem zR_next {α:Type} (r:Except Nat (α×Nat)):zR r=zP (nextP r):=by
 cases r with
 | error k=>rfl
 | ok x=>rfl
def valS (r:Except Nat (Sec×Nat)):Sec:=match r with | .ok (s,_)=>s | .error _=>[]
def valI (r:Except Nat (Int×Nat)):Int:=match r with | .ok (s,_)=>s | .error _=>0
set_option maxHeartbeats 1000000 in
theorem rword_any (h:TS w v ts) (p:Except Nat Nat) (hp:PosOk ts p) :
  Calls Try.prog 40 #[v,.int .i64 (zP p)] w fun e w'=>e=.returned (.tuple #[.string (strOf (valS (wordP ts p))),.int .i64 (zR (wordP ts p))])∧w=w':=by
 have hlen:=h.len
 cases p with
 | error k=>
  obtain ⟨a,cap,rfl⟩:=h.shape
  show Calls _ _ #[_,.int .i64 (zP (.error k))] _ (fun e w'=>e=.returned (.tuple #[.string ⟨#[]⟩,.int .i64 (zP (.error k))])∧w=w')
  obtain ⟨y,hy⟩:∃ y:Int,zP (.error k)=y:=⟨_,rfl⟩
  have hy0:y < 0:=by
   rw [← hy]
   show -1 - (k:Int) < 0
   omega
  rw [hy]
  clear h hp hy
  go_enter Try.func40,Try.ntmps40
  go_wp2_with fail
  go_ret2
  exact ⟨rfl,rfl⟩
 | ok i=>
  have hi:i < ts.length:=hp
  obtain ⟨b,cap,rfl,c0,c1,-⟩:=h.at_ hi
  have KB:=rbad_any i (by omega) w
  show Calls _ _ #[_,.int .i64 (i:Int)] _ (fun e w'=>e=.returned (.tuple #[.string (strOf (valS (wordT ts i))),.int .i64 (zR (wordT ts i))])∧w=w')
  obtain ⟨k,hk⟩:∃ k,kAt ts i=k:=⟨_,rfl⟩
  obtain ⟨S,hS⟩:∃ S,S=strOf (xAt ts i):=⟨_,rfl⟩
  have KK:=RKeyword_any S w
  rw [show S.data.toList=xAt ts i by rw [hS];simp [strOf]] at KK
  have i0:(0:Int)≤(i:Int):=by omega
  have i1:(i:Int) < (ts.length:Int):=by omega
  have hb:¬ (i:Int) < 0:=by omega
  by_cases hk1:k=1
  ·by_cases hkw:xAt ts i∈kws
   ·have e1:wordT ts i=.error i:=if_neg (fun e=>e.2 hkw)
    rw [e1,show (kws.contains (xAt ts i))=true by simpa using hkw] at *
    rw [hk,hk1] at c0
    rw [← hS] at c1
    clear h hp hS hk hi
    show Calls _ _ _ _ (fun e w'=>e=.returned (.tuple #[.string ⟨#[]⟩,.int .i64 (-1 - (i:Int))])∧w=w')
    go_enter Try.func40,Try.ntmps40
    go_wp2_with fail
    refine KK.mono ?_
    rintro e w' ⟨rfl,rfl⟩
    go_wp2_with fail
    refine KB.mono ?_
    rintro e w' ⟨rfl,rfl⟩
    go_wp2_with fail
    go_ret2
    exact ⟨rfl,rfl⟩
   ·have e1:wordT ts i=.ok (xAt ts i,i+1):=if_pos ⟨hk.trans hk1,hkw⟩
    rw [show (kws.contains (xAt ts i))=false by simpa using hkw] at KK
    rw [e1]
    show Calls _ _ _ _ (fun e w'=>e=.returned (.tuple #[.string (strOf (xAt ts i)),.int .i64 ((i+1:Nat):Int)])∧w=w')
    rw [hk,hk1] at c0
    rw [← hS] at c1⊢
    clear h hp hS hk hi e1
    go_enter Try.func40,Try.ntmps40
    go_wp2_with fail
    refine KK.mono ?_
    rintro e w' ⟨rfl,rfl⟩
    go_wp2_with fail
    go_ret2
    exact ⟨rfl,rfl⟩
  ·have e1:wordT ts i=.error i:=if_neg (fun e=>hk1 (hk.symm.trans e.1))
   rw [e1]
   have hk6:((k:Int) != 1)=true:=by simp;omega
   show Calls _ _ _ _ (fun e w'=>e=.returned (.tuple #[.string ⟨#[]⟩,.int .i64 (-1 - (i:Int))])∧w=w')
   rw [hk] at c0
   rw [← hS] at c1
   clear h hp hS hk hi e1
   go_enter Try.func40,Try.ntmps40
   go_wp2_with fail
   refine KB.mono ?_
   rintro e w' ⟨rfl,rfl⟩
   go_wp2_with fail
   go_ret2
   exact ⟨rfl,rfl⟩
end
end Go.Proofs.Ytiaeagpepfmfgaa
