import Derived.Test.YtcebchffcmpfeaaGreatHat
namespace Go.Proofs.YtcebchffcmpfeaaGreat
set_option linter.unusedVariables false
set_option linter.unusedSimpArgs false
open Go.RowKit Go.Maps
def inL (a:Int) (l:Lp):Bool:=decide (l.fr≤a) && decide (a≤l.lst)
def wG (c:Cd) (n:Int):Bool:=decide (0≤n) && decide (n < c.locals)
def lpA (c:Cd) (n:Int):Lp:=c.loops.getD n.toNat ⟨0,0,0,0⟩
def jQ (c:Cd) (n:Int):Ins:=c.ins.getD n.toNat (0,0)
def mF {α:Type} (f:Nat→α→Bool):List α→Nat→Bool | [],_=>true | x :: xs,i=>f i x && mF f xs (i+1)
def fitC (c:Cd):Bool:=decide (0≤c.params) && decide (c.params≤8) && decide (c.params≤c.locals) && decide (c.locals≤64) && decide ((c.ins.length:Int)≤4096) && decide ((c.loops.length:Int)≤64)
def lpOk (c:Cd) (l:Lp):Bool:=wG c l.loc && (decide (1≤l.n) && decide (l.n≤64) && decide (2≤l.fr) && decide (l.fr≤l.lst) && decide (l.lst < (c.ins.length:Int)))
def nK (c:Cd):Bool:=c.loops.all (lpOk c)
def dY (c:Cd) (k:Nat) (i:Ins):Bool:=
 if i.1=2∨i.1=3 then wG c i.2
 else if i.1=9 then decide (1≤i.2) && decide (i.2≤13)
 else if i.1=12∨i.1=13 then decide ((k:Int) < i.2) && decide (i.2≤(c.ins.length:Int))
 else if i.1=14 then decide (0≤i.2) && decide (i.2 < (c.loops.length:Int)) && decide ((lpA c i.2).lst=(k:Int))
 else decide (1≤i.1) && decide (i.1≤16)
def jR (c:Cd):Bool:=mF (dY c) c.ins 0
def jS (c:Cd) (n:Nat) (l:Lp):Bool:=
 decide (jQ c (l.fr - 2)=(1,0)) && decide (jQ c (l.fr - 1)=(3,l.loc)) && decide (jQ c l.lst=(14,(n:Int))) && !(((c.ins.take l.lst.toNat).drop l.fr.toNat).any fun i=>decide (i=(3,l.loc)))
def headC (c:Cd):Bool:=mF (jS c) c.loops 0
def stIn (a b:Lp):Bool:=inL (a.fr - 2) b && inL a.lst b
def gC (a b:Lp):Bool:=decide (a.lst < b.fr - 2) || decide (b.lst < a.fr - 2) || stIn a b || stIn b a
def fH:List Lp→Bool | []=>true | a :: l=>l.all (gC a) && fH l
def iT (c:Cd) (k:Nat) (i:Ins):Bool:=
 if i.1=12∨i.1=13 then c.loops.all fun l=>(inL k l == inL i.2 l) && (inL k l || !decide (i.2=l.fr - 1)) else true
def rD (c:Cd):Bool:=mF (iT c) c.ins 0
def mvs (k:Int):Int×Int:=
 if k=1∨k=2 then (0,1) else if k=4∨k=10∨k=11 then (1,1) else if k=9 then (2,1) else if k=3∨k=13∨k=15∨k=16 then (1,0)
 else if k=5∨k=6∨k=7∨k=8 then (2,0) else (0,0)
def bS (hs:List Int) (a:Nat) (h:Int):List Int:=if hs.getD a 0 < 0 then hs.set a h else hs
def fL (hs:List Int) (a:Nat) (h:Int):Bool:=decide ((bS hs a h).getD a 0=h)
def stkI (i:Ins) (k:Nat) (hs:List Int):Option (List Int):=
 let h0:=bS hs k 0
 let h:=h0.getD k 0 - (mvs i.1).1
 let h2:=h+(mvs i.1).2
 if h < 0∨64 < h2∨(i.1=14∧h≠0) then none
 else if i.1=12 then (if fL h0 i.2.toNat h2 then some (bS h0 i.2.toNat h2) else none)
 else if fL h0 (k+1) h2=false then none
 else if i.1=13 then (if fL (bS h0 (k+1) h2) i.2.toNat h2 then some (bS (bS h0 (k+1) h2) i.2.toNat h2) else none)
 else some (bS h0 (k+1) h2)
def stkF:List Ins→Nat→List Int→Option (List Int)
 | [],_,hs=>some hs
 | i :: is,k,hs=>match stkI i k hs with | none=>none | some h=>stkF is (k+1) h
def stkL:List Lp→List Int→Option (List Int)
 | [],hs=>some hs
 | l :: ls,hs=>if fL hs l.fr.toNat 0 then stkL ls (bS hs l.fr.toNat 0) else none
def jT (c:Cd):Bool:=
 match stkF c.ins 0 (List.replicate (c.ins.length+1) (-1)) with
 | none=>false
 | some hs=>match stkL c.loops hs with | none=>false | some h2=>fL h2 c.ins.length 0
def dg (a:Int) (ls:List Lp) (t:Int):Int:=ls.foldl (fun t l=>if inL a l then min (t*l.n) 65537 else t) t
def qm (ls:List Lp):Nat→Nat→Int→Int | 0,_,s=>s | n+1,k,s=>qm ls n (k+1) (s+dg k ls 1)
def iH (c:Cd):Int:=qm c.loops c.ins.length 0 0
def em (c:Cd):Bool:=fitC c && nK c && jR c && headC c && fH c.loops && rD c && jT c && decide (iH c≤65536)
structure Mc where
 pg:List Int
 lo:List Int
 st:List Int
 at_:Nat
 n:Nat
 gv:Int
def doM (c:Cd) (i:Ins) (s:Mc):Mc:=
 let x:=s.st.headD 0
 let y:=s.st.tail.headD 0
 let t:=s.st.tail
 if i.1=1 then {s with st:=i.2 :: s.st }
 else if i.1=2 then {s with st:=s.lo.getD i.2.toNat 0 :: s.st }
 else if i.1=3 then {s with st:=t,lo:=s.lo.set i.2.toNat x }
 else if i.1=4 then {s with st:=gU s.pg x :: t }
 else if i.1=5∨i.1=6∨i.1=7 then {s with st:=t.tail,pg:=tY (i.1 - 3) s.pg y x }
 else if i.1=8 then {s with st:=t.tail,pg:=swpC s.pg y x }
 else if i.1=9 then {s with st:=opV (ops13.getD (i.2 - 1).toNat []) y x :: t.tail }
 else if i.1=10 then {s with st:=wrap64 (-x) :: t }
 else if i.1=11 then {s with st:=tr (x=0) :: t }
 else if i.1=12 then {s with at_:=i.2.toNat }
 else if i.1=13 then {s with st:=t,at_:=if x=0 then i.2.toNat else s.at_ }
 else if i.1=14 then
  {s with lo:=s.lo.set (lpA c i.2).loc.toNat (s.lo.getD (lpA c i.2).loc.toNat 0+1),at_:=if s.lo.getD (lpA c i.2).loc.toNat 0+1 < (lpA c i.2).n then (lpA c i.2).fr.toNat else s.at_ }
 else if i.1=15 then {s with st:=t }
 else if i.1=16 then {s with st:=t,gv:=x }
 else s
def nxM (s:Mc):Mc:={s with at_:=s.at_+1,n:=s.n+1 }
def rE (c:Cd):Nat→Mc→Mc×Bool
 | 0,s=>(s,true)
 | f+1,s=>match c.ins[s.at_]? with
  | none=>(s,true)
  | some i=>if i.1=15∧s.st.headD 0=0 then ({nxM s with st:=s.st.tail },false) else rE c f (doM c i (nxM s))
def inM (pg:List Int) (args:List Int):Mc:=⟨pg,args++List.replicate (64 - args.length) 0,[],0,0,0⟩
def oY (c:Cd) (pg args:List Int):Mc×Bool:=rE c 65536 (inM pg args)
def ranM (c:Cd) (pg args:List Int):Option (List Int)×Int×Int:=
 if em c=false then (none,0,13) else if (args.length:Int)≠c.params then (none,0,2)
 else if (oY c pg args).2 then (some (oY c pg args).1.pg,(oY c pg args).1.gv,0) else (none,0,12)
theorem runM_n (c:Cd):∀ (f:Nat) (s:Mc),(rE c f s).1.n≤s.n+f
 | 0,s=>by unfold rE;exact Nat.le_refl _
 | f+1,s=>by
  have hd:∀ i s,(doM c i s).n=s.n:=by
   intro i s;unfold doM;simp only [apply_ite Mc.n,ite_self]
  unfold rE;split
  ·show s.n≤_;omega
  ·split
   ·show s.n+1≤_;omega
   ·rename_i i _ _;have:=runM_n c f (doM c i (nxM s));rw [hd] at this;have e:(nxM s).n=s.n+1:=rfl;omega
end Go.Proofs.YtcebchffcmpfeaaGreat
