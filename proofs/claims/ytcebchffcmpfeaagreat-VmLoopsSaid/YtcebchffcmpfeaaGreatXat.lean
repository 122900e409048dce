import Derived.Test.YtcebchffcmpfeaaGreatX1t
namespace Go.Proofs.YtcebchffcmpfeaaGreat
set_option linter.unusedVariables false
set_option linter.unusedSimpArgs false
set_option linter.unusedSectionVars false
open Go.RowKit Go.Maps
theorem gF {α:Type} {f:Nat→α→Bool}:∀ {l:List α} {i:Nat},mF f l i=true→∀ {k:Nat} {x:α},l[k]?=some x→f (i+k) x=true
 | [],i,_,k,x,hx=>by simp at hx
 | y :: l,i,h,k,x,hx=>by
  unfold mF at h;rw [Bool.and_eq_true] at h;cases k with
  | zero=>simp at hx;subst hx;exact h.1
  | succ k=>
   have:=gF h.2 (k:=k) (x:=x) (by simpa using hx)
   rwa [show i+(k+1)=i+1+k by omega]
theorem nN:∀ {l:List Lp},fH l=true→∀ {i j:Nat} {a b:Lp},i < j→l[i]?=some a→l[j]?=some b→gC a b=true
 | [],_,i,j,a,b,_,ha,_=>by simp at ha
 | y :: l,h,i,j,a,b,hij,ha,hb=>by
  unfold fH at h;rw [Bool.and_eq_true,List.all_eq_true] at h;cases j with
  | zero=>omega
  | succ j=>
   rw [List.getElem?_cons_succ] at hb;cases i with
   | zero=>simp at ha;subst ha;exact h.1 b (List.mem_of_getElem? hb)
   | succ i=>exact nN h.2 (i:=i) (j:=j) (by omega) (by simpa using ha) hb
def sub (a b:Lp):Bool:=decide (b.fr≤a.fr - 2) && decide (a.lst≤b.lst)
theorem aG {a:Int} {l:Lp}:inL a l=true↔l.fr≤a∧a≤l.lst:=by simp [inL]
theorem iJ {a:Int} {l:Lp}:inL a l=false↔¬ (l.fr≤a∧a≤l.lst):=by rw [← aG,Bool.not_eq_true]
theorem bK {a b:Lp}:sub a b=true↔b.fr≤a.fr - 2∧a.lst≤b.lst:=by simp [sub]
structure GdC (c:Cd):Prop where
 fit:0≤c.params∧c.params≤8∧c.params≤c.locals∧c.locals≤64∧c.ins.length≤4096∧c.loops.length≤64
 lp:∀ l∈c.loops,0≤l.loc∧l.loc < c.locals∧1≤l.n∧l.n≤64∧2≤l.fr∧l.fr≤l.lst∧l.lst < c.ins.length
 ins:∀ {k:Nat} {i:Ins},c.ins[k]?=some i→dY c k i=true
 head:∀ {n:Nat} {l:Lp},c.loops[n]?=some l→c.ins[(l.fr - 2).toNat]?=some (1,0)∧c.ins[(l.fr - 1).toNat]?=some (3,l.loc)∧c.ins[l.lst.toNat]?=some (14,(n:Int))∧
  ∀ {k:Nat},l.fr≤k→k≤l.lst→c.ins[k]?≠some (3,l.loc)
 two:∀ a∈c.loops,∀ b∈c.loops,a=b∨a.lst < b.fr - 2∨b.lst < a.fr - 2∨sub a b=true∨sub b a=true
 one:c.loops.Pairwise fun a b=>a.fr≠b.fr
 jmp:∀ {k:Nat} {i:Ins},c.ins[k]?=some i→i.1=12∨i.1=13→∀ l∈c.loops,inL k l=inL i.2 l∧(inL k l=false→i.2≠l.fr - 1)
theorem ms {c:Cd} {n:Int} {x:Ins} (h0:0≤n) (h1:n < c.ins.length) (h:jQ c n=x):c.ins[n.toNat]?=some x:=by
 unfold jQ at h;rw [List.getD_eq_getElem?_getD,List.getElem?_eq_getElem (by omega),Option.getD_some] at h;rw [List.getElem?_eq_getElem (by omega),h]
theorem pair_no {a b:Lp} (h:gC a b=true) (ha:a.fr≤a.lst) (hb:b.fr≤b.lst):a.lst < b.fr - 2∨b.lst < a.fr - 2∨sub a b=true∨sub b a=true:=by
 simp only [gC,stIn,Bool.or_eq_true,Bool.and_eq_true,decide_eq_true_eq,aG] at h;rw [bK,bK];omega
theorem rF {c:Cd} (h:em c=true):GdC c∧jT c=true∧iH c≤65536:=by
 simp only [em,Bool.and_eq_true,decide_eq_true_eq] at h;obtain ⟨⟨⟨⟨⟨⟨⟨h1,h2⟩,h3⟩,h4⟩,h5⟩,h6⟩,h7⟩,h8⟩:=h;have hl:∀ l∈c.loops,0≤l.loc∧l.loc < c.locals∧1≤l.n∧l.n≤64∧2≤l.fr∧l.fr≤l.lst∧l.lst < c.ins.length:=by
  intro l hm;have:=List.all_eq_true.1 h2 l hm;simp only [lpOk,wG,Bool.and_eq_true,decide_eq_true_eq] at this;omega
 have hi:∀ {k:Nat} {i:Ins},c.ins[k]?=some i→dY c k i=true:=fun {k i} hk=>by
  have:=gF h3 hk
  rwa [Nat.zero_add] at this
 have hp:∀ {i j:Nat} {a b:Lp},i < j→c.loops[i]?=some a→c.loops[j]?=some b→a.lst < b.fr - 2∨b.lst < a.fr - 2∨sub a b=true∨sub b a=true:=fun {i j a b} hij ha hb=>
  pair_no (nN h5 hij ha hb) (by have:=hl a (List.mem_of_getElem? ha);omega) (by have:=hl b (List.mem_of_getElem? hb);omega)
 refine ⟨⟨?_,hl,hi,?_,?_,?_,?_⟩,h7,h8⟩
 ·simp only [fitC,Bool.and_eq_true,decide_eq_true_eq] at h1;omega
 ·intro n l hn;have hm:=hl l (List.mem_of_getElem? hn);have:=gF h4 hn;rw [Nat.zero_add] at this;simp only [jS,Bool.and_eq_true,decide_eq_true_eq,Bool.not_eq_true'] at this;obtain ⟨⟨⟨a1,a2⟩,a3⟩,a4⟩:=this;have e3:=ms (by omega) (by omega) a3;refine ⟨ms (by omega) (by omega) a1,ms (by omega) (by omega) a2,e3,?_⟩;intro k hk1 hk2 hk
  by_cases hq:(k:Int)=l.lst
  ·rw [← hq,show ((k:Int)).toNat=k by omega,hk] at e3;cases e3
  ·rw [List.any_eq_false] at a4;have hlt:k < c.ins.length:=by omega
   have hmem:(3,l.loc)∈(c.ins.take l.lst.toNat).drop l.fr.toNat:=by
    apply List.mem_of_getElem? (i:=k - l.fr.toNat)
    rw [List.getElem?_drop,List.getElem?_take,if_pos (by omega),show l.fr.toNat+(k - l.fr.toNat)=k by omega,hk]
   exact a4 _ hmem (by simp)
 ·intro a ha b hb;obtain ⟨i,ha'⟩:=List.getElem?_of_mem ha;obtain ⟨j,hb'⟩:=List.getElem?_of_mem hb
  by_cases hij:i=j
  ·subst hij;rw [ha'] at hb';exact .inl (Option.some.inj hb')
  ·by_cases hlt:i < j
   ·exact .inr (hp hlt ha' hb')
   ·have:=hp (show j < i by omega) hb' ha';refine .inr ?_;rcases this with h | h | h | h
    ·exact .inr (.inl h)
    ·exact .inl h
    ·exact .inr (.inr (.inr h))
    ·exact .inr (.inr (.inl h))
 ·rw [List.pairwise_iff_getElem];intro i j hi hj hij he;have:=hp hij (List.getElem?_eq_getElem hi) (List.getElem?_eq_getElem hj);have m1:=hl _ (List.getElem_mem hi);have m2:=hl _ (List.getElem_mem hj);rw [bK,bK] at this;omega
 ·intro k i hk h12 l hm;have:=gF h6 hk;rw [Nat.zero_add] at this;unfold iT at this;rw [if_pos h12,List.all_eq_true] at this;have:=this l hm;simp only [Bool.and_eq_true,beq_iff_eq,Bool.or_eq_true,Bool.not_eq_true',decide_eq_false_iff_not] at this;refine ⟨this.1,fun hf=>?_⟩;rcases this.2 with h | h
  ·rw [h] at hf;cases hf
  ·exact h
theorem hset_get (hs:List Int) (a b:Nat) (h:Int) (hb:0≤hs.getD b 0) (hn:hs.getD b 0≠0∨b < hs.length):(bS hs a h).getD b 0=hs.getD b 0:=by
 unfold bS;split
 ·rename_i hlt
  by_cases e:a=b
  ·subst e;omega
  ·rw [List.getD_eq_getElem?_getD,List.getElem?_set_ne e,← List.getD_eq_getElem?_getD]
 ·rfl
theorem nO (hs:List Int) (a b:Nat) (h:Int) (hb:0≤hs.getD b 0):(bS hs a h).getD b 0=hs.getD b 0:=by
 unfold bS;split
 ·rename_i hlt
  by_cases e:a=b
  ·subst e;omega
  ·rw [List.getD_eq_getElem?_getD,List.getElem?_set_ne e,← List.getD_eq_getElem?_getD]
 ·rfl
theorem dZ (hs:List Int) (a:Nat) (h:Int):(bS hs a h).length=hs.length:=by
 unfold bS;split<;>simp
theorem nP (hs:List Int) (a:Nat):0≤(bS hs a 0).getD a 0:=by
 unfold bS;split
 ·rename_i hlt;have:a < hs.length:=by
   apply Classical.byContradiction;intro hn;rw [List.getD_eq_getElem?_getD,List.getElem?_eq_none (by omega)] at hlt;simp at hlt
  rw [List.getD_eq_getElem?_getD,List.getElem?_set_self this];simp
 ·omega
def HtI (F:List Int) (k:Nat) (i:Ins):Prop:=
 0≤F.getD k 0 - (mvs i.1).1∧F.getD k 0 - (mvs i.1).1+(mvs i.1).2≤64∧(i.1=14→F.getD k 0 - (mvs i.1).1=0)∧
  (i.1≠12→F.getD (k+1) 0=F.getD k 0 - (mvs i.1).1+(mvs i.1).2)∧(i.1=12∨i.1=13→F.getD i.2.toNat 0=F.getD k 0 - (mvs i.1).1+(mvs i.1).2)
theorem mvs_nn (k:Int):0≤(mvs k).1∧0≤(mvs k).2:=by unfold mvs;(repeat' split)<;>decide
def Kpt (hs F:List Int):Prop:=F.length=hs.length∧∀ b,0≤hs.getD b 0→F.getD b 0=hs.getD b 0
theorem Kpt.refl (hs:List Int):Kpt hs hs:=⟨rfl,fun _ _=>rfl⟩
theorem Kpt.set (hs:List Int) (a:Nat) (h:Int):Kpt hs (bS hs a h):=⟨dZ hs a h,fun b hb=>nO hs a b h hb⟩
theorem Kpt.trans {a b c:List Int} (h1:Kpt a b) (h2:Kpt b c):Kpt a c:=⟨h2.1.trans h1.1,fun k hk=>(h2.2 k (by rw [h1.2 k hk];exact hk)).trans (h1.2 k hk)⟩
theorem wK {i:Ins} {k:Nat} {hs h1:List Int} (h:stkI i k hs=some h1):Kpt hs h1∧(∀ F,Kpt h1 F→HtI F k i∧F.getD k 0=(bS hs k 0).getD k 0):=by
 have z:=nP hs k;have mn:=mvs_nn i.1;unfold stkI at h;dsimp only at h;split at h
 ·cases h
 ·rename_i hc;have k0:=Kpt.set hs k 0;have hc2:0≤(bS hs k 0).getD k 0 - (mvs i.1).1∧(bS hs k 0).getD k 0 - (mvs i.1).1+(mvs i.1).2≤64∧(i.1=14→(bS hs k 0).getD k 0 - (mvs i.1).1=0):=by
   refine ⟨by omega,by omega,fun e=>?_⟩;apply Classical.byContradiction;intro hn;exact hc (.inr (.inr ⟨e,hn⟩))
  generalize bS hs k 0=g0 at h hc z k0 hc2;obtain ⟨H,hH⟩:∃ H,H=g0.getD k 0 - (mvs i.1).1+(mvs i.1).2:=⟨_,rfl⟩
  rw [← hH] at h;have hH0:0≤H:=by omega
  have fin:∀ {h1:List Int},Kpt g0 h1→(i.1≠12→h1.getD (k+1) 0=H)→(i.1=12∨i.1=13→h1.getD i.2.toNat 0=H)→Kpt hs h1∧(∀ F,Kpt h1 F→HtI F k i∧F.getD k 0=g0.getD k 0):=by
   intro h1 q a b;refine ⟨k0.trans q,fun F hF=>?_⟩;have e:F.getD k 0=g0.getD k 0:=(q.trans hF).2 k z;unfold HtI;rw [e,← hH];refine ⟨⟨hc2.1,by omega,hc2.2.2,fun hn=>?_,fun hn=>?_⟩,rfl⟩
   ·rw [hF.2 _ (by rw [a hn];exact hH0),a hn]
   ·rw [hF.2 _ (by rw [b hn];exact hH0),b hn]
  split at h
  ·rename_i h12;split at h
   ·rename_i hh;cases h;exact fin (Kpt.set _ _ _) (fun hn=>absurd h12 hn) (fun _=>by simpa [fL] using hh)
   ·cases h
  ·rename_i h12;split at h
   ·cases h
   ·rename_i hh;have hh':(bS g0 (k+1) H).getD (k+1) 0=H:=by simpa [fL] using hh
    split at h
    ·split at h
     ·rename_i h13 hh2;cases h;refine fin ((Kpt.set _ _ _).trans (Kpt.set _ _ _)) (fun _=>?_) (fun _=>by simpa [fL] using hh2);rw [nO _ _ _ _ (by rw [hh'];exact hH0),hh']
     ·cases h
    ·rename_i h13;cases h;exact fin (Kpt.set _ _ _) (fun _=>hh') (fun hn=>by rcases hn with hn | hn<;>contradiction)
theorem qr:∀ {is:List Ins} {k:Nat} {hs F:List Int},stkF is k hs=some F→Kpt hs F∧∀ {j:Nat} {i:Ins},is[j]?=some i→∀ G,Kpt F G→HtI G (k+j) i
 | [],k,hs,F,h=>by
  unfold stkF at h;cases h;exact ⟨Kpt.refl _,fun {j i} hj=>by simp at hj⟩
 | x :: is,k,hs,F,h=>by
  unfold stkF at h;split at h
  ·cases h
  ·rename_i h1 e;obtain ⟨q1,q3⟩:=wK e;obtain ⟨p1,p2⟩:=qr h;refine ⟨q1.trans p1,fun {j i} hj G hG=>?_⟩;cases j with
   | zero=>simp at hj;subst hj;exact (q3 G (p1.trans hG)).1
   | succ j=>rw [show k+(j+1)=k+1+j by omega];exact p2 (by simpa using hj) G hG
theorem wM:∀ {ls:List Lp} {hs F:List Int},stkL ls hs=some F→Kpt hs F∧∀ l∈ls,F.getD l.fr.toNat 0=0
 | [],hs,F,h=>by
  unfold stkL at h;cases h;exact ⟨Kpt.refl _,fun l hl=>by simp at hl⟩
 | x :: ls,hs,F,h=>by
  unfold stkL at h;split at h
  ·rename_i hh;obtain ⟨p1,p2⟩:=wM h;have e:(bS hs x.fr.toNat 0).getD x.fr.toNat 0=0:=by simpa [fL] using hh
   refine ⟨(Kpt.set _ _ _).trans p1,fun l hl=>?_⟩;rcases List.mem_cons.1 hl with rfl | hl
   ·rw [p1.2 _ (by rw [e];exact Int.le_refl _),e]
   ·exact p2 l hl
  ·cases h
structure Hts (c:Cd) (F:List Int):Prop where
 ins:∀ {k:Nat} {i:Ins},c.ins[k]?=some i→HtI F k i
 lps:∀ l∈c.loops,F.getD l.fr.toNat 0=0
 zero:F.getD 0 0=0
theorem wN {c:Cd} (h:jT c=true):∃ F,Hts c F:=by
 unfold jT at h;split at h
 ·cases h
 ·rename_i h1 e1;split at h
  ·cases h
  ·rename_i h2 e2;obtain ⟨a1,a2⟩:=qr e1;obtain ⟨b1,b2⟩:=wM e2;have e:(bS h2 c.ins.length 0).getD c.ins.length 0=0:=by simpa [fL] using h
   have k2:=Kpt.set h2 c.ins.length 0;refine ⟨bS h2 c.ins.length 0,fun {k i} hk=>?_,fun l hl=>?_,?_⟩
   ·have:=a2 hk _ (b1.trans k2)
    rwa [Nat.zero_add] at this
   ·rw [k2.2 _ (by rw [b2 l hl];exact Int.le_refl _),b2 l hl]
   ·cases hi:c.ins with
    | nil=>rw [hi] at e;exact e
    | cons i is=>
     rw [hi] at e1;unfold stkF at e1;split at e1
     ·cases e1
     ·rename_i g e3;obtain ⟨q,-⟩:=qr e1;rw [← hi,((wK e3).2 _ (q.trans (b1.trans k2))).2];simp [bS]
def sm:Nat→(Nat→Nat)→Nat | 0,_=>0 | n+1,f=>sm n f+f n
theorem d5:∀ {n:Nat} {f g:Nat→Nat},(∀ i,i < n→f i=g i)→sm n f=sm n g
 | 0,_,_,_=>rfl
 | n+1,f,g,h=>by unfold sm;rw [d5 (fun i hi=>h i (by omega)),h n (by omega)]
theorem sm_le:∀ {n:Nat} {f g:Nat→Nat},(∀ i,i < n→f i≤g i)→sm n f≤sm n g
 | 0,_,_,_=>Nat.le_refl _
 | n+1,f,g,h=>by unfold sm;have:=sm_le (fun i hi=>h i (by omega)) (n:=n) (f:=f) (g:=g);have:=h n (by omega);omega
theorem jY:∀ (n:Nat) (f g:Nat→Nat),sm n (fun i=>f i+g i)=sm n f+sm n g
 | 0,_,_=>rfl
 | n+1,f,g=>by show sm n _+(f n+g n)=sm n f+f n+(sm n g+g n);rw [jY n f g];omega
theorem sm_mul (c:Nat):∀ (n:Nat) (f:Nat→Nat),sm n (fun i=>c*f i)=c*sm n f
 | 0,_=>rfl
 | n+1,f=>by show sm n _+c*f n=c*(sm n f+f n);rw [sm_mul c n f,Nat.mul_add]
theorem nQ (a x:Nat):∀ n:Nat,sm n (fun i=>if i=a then x else 0)=if a < n then x else 0
 | 0=>rfl
 | n+1=>by
  show sm n _+(if n=a then x else 0)=_;rw [nQ a x n]
  by_cases h:n=a
  ·subst h;rw [if_neg (by omega),if_pos rfl,if_pos (by omega)];omega
  ·rw [if_neg h]
   by_cases h2:a < n
   ·rw [if_pos h2,if_pos (by omega)];omega
   ·rw [if_neg h2,if_neg (by omega)]
def prd:List Lp→(Lp→Bool)→Nat | [],_=>1 | l :: ls,p=>(if p l=true then l.n.toNat else 1)*prd ls p
theorem b8:∀ {L:List Lp} {p q:Lp→Bool},(∀ m∈L,p m=q m)→prd L p=prd L q
 | [],_,_,_=>rfl
 | l :: L,p,q,h=>by unfold prd;rw [h l (by simp),b8 (fun m hm=>h m (by simp [hm]))]
theorem gG:∀ {L:List Lp} {p:Lp→Bool},(∀ m∈L,p m=false)→prd L p=1
 | [],_,_=>rfl
 | l :: L,p,h=>by unfold prd;rw [h l (by simp),gG (fun m hm=>h m (by simp [hm]))];rfl
theorem mt:∀ {L:List Lp} {p:Lp→Bool},(∀ m∈L,1≤m.n)→1≤prd L p
 | [],_,_=>Nat.le_refl _
 | l :: L,p,h=>by
  unfold prd;have h1:=mt (L:=L) (p:=p) (fun m hm=>h m (by simp [hm]));have h2:=h l (by simp);have h3:1≤(if p l=true then l.n.toNat else 1):=by split<;>omega
  exact Nat.mul_le_mul h3 h1
theorem nS:∀ {L:List Lp} {p q:Lp→Bool} {l:Lp},(L.Pairwise fun a b=>a.fr≠b.fr)→l∈L→p l=true→q l=false→(∀ m∈L,m.fr≠l.fr→p m=q m)→prd L p=l.n.toNat*prd L q
 | x :: L,p,q,l,hw,hm,h1,h2,h=>by
  rw [List.pairwise_cons] at hw;unfold prd;rcases List.mem_cons.1 hm with rfl | hm
  ·rw [h1,h2,if_pos rfl,if_neg (by decide),Nat.one_mul,b8 (fun m hm=>h m (by simp [hm]) (hw.1 m hm).symm)]
  ·have e:=nS hw.2 hm h1 h2 (fun m hm=>h m (by simp [hm]));rw [e,h x (by simp) (hw.1 l hm)];rw [Nat.mul_left_comm]
def oZ:List Lp→(Lp→Nat)→Nat | [],_=>0 | l :: ls,f=>f l+oZ ls f
theorem dR:∀ {L:List Lp} {f g:Lp→Nat},(∀ m∈L,f m=g m)→oZ L f=oZ L g
 | [],_,_,_=>rfl
 | l :: L,f,g,h=>by unfold oZ;rw [h l (by simp),dR (fun m hm=>h m (by simp [hm]))]
theorem eX:∀ {L:List Lp} {f g:Lp→Nat} {l:Lp},(L.Pairwise fun a b=>a.fr≠b.fr)→l∈L→(∀ m∈L,m.fr≠l.fr→f m=g m)→oZ L f+g l=oZ L g+f l
 | x :: L,f,g,l,hw,hm,h=>by
  rw [List.pairwise_cons] at hw;unfold oZ;rcases List.mem_cons.1 hm with rfl | hm
  ·rw [dR (L:=L) (fun m hm=>h m (by simp [hm]) (hw.1 m hm).symm)];omega
  ·have e:=eX hw.2 hm (fun m hm=>h m (by simp [hm]));have:=h x (by simp) (hw.1 l hm);omega
def pA (c:Cd) (u:Nat→Nat) (k:Nat):Nat:=sm c.ins.length fun i=>if k≤i then u i*prd c.loops (fun m=>inL i m && !inL k m) else 0
def pR (c:Cd) (u:Nat→Nat) (l:Lp):Nat:=sm c.ins.length fun i=>if inL i l=true then u i*prd c.loops (fun m=>inL i m && sub m l) else 0
def pT (c:Cd) (u:Nat→Nat) (k:Nat) (lo:List Int) (m:Lp):Nat:=if inL k m=true then (m.n - 1 - lo.getD m.loc.toNat 0).toNat*pR c u m else 0
def Ph (c:Cd) (u:Nat→Nat) (k:Nat) (lo:List Int):Nat:=pA c u k+oZ c.loops (pT c u k lo)
theorem wO {c:Cd} (u:Nat→Nat) {k:Nat} (hk:k < c.ins.length) (hh:∀ m∈c.loops,∀ i:Nat,k+1≤i→(inL i m && !inL k m)=(inL i m && !inL (k+1:Nat) m)):pA c u k=u k+pA c u (k+1):=by
 have e:pA c u k=sm c.ins.length (fun i=>(if i=k then u k else 0)+(if k+1≤i then u i*prd c.loops (fun m=>inL i m && !inL (k+1:Nat) m) else 0)):=by
  unfold pA;refine d5 fun i hi=>?_
  by_cases h1:i=k
  ·subst h1;rw [if_pos (Nat.le_refl _),if_pos rfl,if_neg (by omega),gG (fun m _=>by simp)];omega
  ·rw [if_neg h1]
   by_cases h2:k+1≤i
   ·rw [if_pos (by omega),if_pos h2,b8 (fun m hm=>hh m hm i h2)];omega
   ·rw [if_neg (by omega),if_neg h2]
 rw [e,jY,nQ,if_pos hk];rfl
theorem pA_jump {c:Cd} (u:Nat→Nat) {k k':Nat} (hk:k < c.ins.length) (hlt:k < k') (hh:∀ m∈c.loops,inL k m=inL k' m):u k+pA c u k'≤pA c u k:=by
 have e:u k+pA c u k'=sm c.ins.length (fun i=>(if i=k then u k else 0)+(if k'≤i then u i*prd c.loops (fun m=>inL i m && !inL k' m) else 0)):=by
  rw [jY,nQ,if_pos hk];rfl
 rw [e];unfold pA;refine sm_le fun i hi=>?_
 by_cases h1:i=k
 ·subst h1;rw [if_pos (Nat.le_refl _),if_pos rfl,if_neg (by omega),gG (fun m _=>by simp)];omega
 ·rw [if_neg h1]
  by_cases h2:k'≤i
  ·rw [if_pos h2,if_pos (show k≤i by omega),b8 (q:=fun m=>inL i m && !inL k m) (fun m hm=>by rw [hh m hm])];omega
  ·rw [if_neg h2];omega
section
variable {c:Cd} (h:GdC c) (u:Nat→Nat) {k:Nat}
include h
theorem in_sub {l:Lp} (hl:l∈c.loops) {i:Nat} (hi:inL i l=true) {m:Lp} (hm:m∈c.loops):(inL i m && sub m l)=(inL i m && !inL l.fr m):=by
 have f1:=h.lp l hl;have f2:=h.lp m hm;cases hq:inL i m
 ·rfl
 ·rw [aG] at hi hq;rw [Bool.true_and,Bool.true_and,Bool.eq_iff_iff,Bool.not_eq_true',bK,iJ];constructor
  ·omega
  ·intro hn;rcases h.two m hm l hl with e | e | e | e | e
   ·subst e;omega
   ·omega
   ·omega
   ·rwa [bK] at e
   ·rw [bK] at e;omega
theorem pA_enter {l:Lp} (hl:l∈c.loops) (hk:(k:Int)+1=l.fr):pA c u k=u k+pA c u (k+1)+(l.n.toNat - 1)*pR c u l:=by
 have f1:=h.lp l hl;have e:pA c u k=sm c.ins.length (fun i=>((if i=k then u k else 0)+(if k+1≤i then u i*prd c.loops (fun m=>inL i m && !inL (k+1:Nat) m) else 0))+(l.n.toNat - 1)*(if inL i l=true then u i*prd c.loops (fun m=>inL i m && sub m l) else 0)):=by
  unfold pA;refine d5 fun i hi=>?_
  by_cases h1:i=k
  ·subst h1;have hn:inL (i:Int) l=false:=by rw [iJ];omega
   rw [if_pos (Nat.le_refl _),if_pos rfl,if_neg (by omega),gG (fun m _=>by simp),hn];simp
  ·rw [if_neg h1]
   by_cases h2:k+1≤i
   ·rw [if_pos (by omega),if_pos h2];have same:∀ m∈c.loops,m.fr≠l.fr→(inL i m && !inL k m)=(inL i m && !inL (k+1:Nat) m):=by
     intro m hm hne;have f2:=h.lp m hm;cases hq:inL i m
     ·rfl
     ·rw [aG] at hq;rw [Bool.true_and,Bool.true_and];congr 1;rw [Bool.eq_iff_iff,aG,aG];constructor<;>intro hh<;>push_cast at *<;>omega
    by_cases h3:inL i l=true
    ·rw [if_pos h3];have e1:prd c.loops (fun m=>inL i m && !inL k m)=l.n.toNat*prd c.loops (fun m=>inL i m && !inL (k+1:Nat) m):=by
      refine nS h.one hl ?_ ?_ same
      ·have:inL (k:Int) l=false:=by rw [iJ];omega
       rw [h3,this];rfl
      ·have:inL ((k+1:Nat):Int) l=true:=by rw [aG];push_cast;omega
       rw [h3,this];rfl
     have e2:prd c.loops (fun m=>inL i m && sub m l)=prd c.loops (fun m=>inL i m && !inL (k+1:Nat) m):=by
      refine b8 fun m hm=>?_;rw [in_sub h hl h3 hm,show (((k+1:Nat)):Int)=l.fr by push_cast;omega]
     rw [e1,e2];obtain ⟨n,hn⟩:∃ n,l.n.toNat=n+1:=⟨l.n.toNat - 1,by omega⟩
     rw [hn,Nat.add_sub_cancel,Nat.mul_left_comm,Nat.add_mul,Nat.one_mul];omega
    ·rw [if_neg h3,b8 (q:=fun m=>inL i m && !inL (k+1:Nat) m)]
     ·omega
     ·intro m hm
      by_cases he:m.fr=l.fr
      ·have:m=l:=by
        rcases h.two m hm l hl with e | e | e | e | e
        ·exact e
        ·have:=h.lp m hm;omega
        ·have:=h.lp m hm;omega
        ·rw [bK] at e;omega
        ·rw [bK] at e;omega
       subst this;rw [Bool.eq_false_iff.2 h3];rfl
      ·exact same m hm he
   ·have hn:inL (i:Int) l=false:=by rw [iJ];omega
    rw [if_neg (by omega),if_neg h2,hn];simp
 rw [e,jY,jY,nQ,if_pos (by omega),sm_mul];rfl
theorem pA_back {l:Lp} (hl:l∈c.loops) (hk:(k:Int)=l.lst) (hh:∀ m∈c.loops,inL k m=inL l.fr m):pA c u l.fr.toNat+u k=pA c u k+pR c u l:=by
 have f1:=h.lp l hl;have el:((l.fr.toNat:Nat):Int)=l.fr:=by omega
 have e:pA c u l.fr.toNat+u k=sm c.ins.length (fun i=>(if l.fr.toNat≤i then u i*prd c.loops (fun m=>inL i m && !inL (l.fr.toNat:Nat) m) else 0)+(if i=k then u k else 0)):=by
  rw [jY,nQ,if_pos (by omega)];rfl
 have e2:pA c u k+pR c u l=sm c.ins.length (fun i=>(if k≤i then u i*prd c.loops (fun m=>inL i m && !inL k m) else 0)+(if inL i l=true then u i*prd c.loops (fun m=>inL i m && sub m l) else 0)):=by
  rw [jY];rfl
 rw [e,e2];refine d5 fun i hi=>?_;have s1:prd c.loops (fun m=>inL i m && !inL (l.fr.toNat:Nat) m)=prd c.loops (fun m=>inL i m && !inL k m):=b8 fun m hm=>by rw [el,hh m hm]
 by_cases h3:inL i l=true
 ·have e4:prd c.loops (fun m=>inL i m && sub m l)=prd c.loops (fun m=>inL i m && !inL k m):=b8 fun m hm=>by rw [in_sub h hl h3 hm,hh m hm]
  rw [if_pos h3,e4,s1];rw [aG] at h3;rw [if_pos (by omega)]
  by_cases h1:i=k
  ·subst h1;rw [if_pos rfl,if_pos (Nat.le_refl _),gG (fun m _=>by simp)];omega
  ·rw [if_neg h1,if_neg (by omega)];omega
 ·rw [if_neg h3];rw [aG] at h3;rw [if_neg (show ¬ i=k by omega),s1]
  by_cases h1:k≤i
  ·rw [if_pos h1,if_pos (by omega)]
  ·rw [if_neg h1,if_neg (by omega)]
end
theorem Ph_zero {c:Cd} (h:GdC c) (u:Nat→Nat) (lo:List Int):Ph c u 0 lo=sm c.ins.length fun i=>u i*prd c.loops (fun m=>inL i m):=by
 have hz:∀ m∈c.loops,inL ((0:Nat):Int) m=false:=fun m hm=>by have:=h.lp m hm;rw [iJ];omega
 have e:oZ c.loops (pT c u 0 lo)=0:=by
  have:oZ c.loops (pT c u 0 lo)=oZ c.loops (fun _=>0):=dR fun m hm=>by unfold pT;rw [hz m hm];rfl
  rw [this]
  induction c.loops with
  | nil=>rfl
  | cons a l ih=>unfold oZ;rw [ih]
 unfold Ph pA;rw [e,Nat.add_zero];refine d5 fun i _=>?_;rw [if_pos (Nat.zero_le _),b8 (q:=fun m=>inL i m) (fun m hm=>by rw [hz m hm];simp)]
theorem gH:∀ (L:List Lp) (a:Int) (t:Int),(∀ m∈L,1≤m.n)→1≤t→t≤65537→dg a L t=min (t*(prd L (inL a):Nat)) 65537
 | [],a,t,_,h1,h2=>by
  show t=min (t*((1:Nat):Int)) 65537;omega
 | l :: L,a,t,hn,h1,h2=>by
  have hl:=hn l (by simp);have hL:∀ m∈L,1≤m.n:=fun m hm=>hn m (by simp [hm]);have hp:1≤prd L (inL a):=mt hL;have e:dg a (l :: L) t=dg a L (if inL a l then min (t*l.n) 65537 else t):=rfl;rw [e]
  by_cases hi:inL a l=true
  ·rw [if_pos hi];have hpos:1≤t*l.n:=by have:=Int.mul_le_mul h1 hl (by omega) (by omega);omega
   rw [gH L a _ hL (by omega) (by omega)];have:prd (l :: L) (inL a)=l.n.toNat*prd L (inL a):=by show (if inL a l=true then l.n.toNat else 1)*_=_;rw [if_pos hi]
   rw [this];push_cast;rw [show ((l.n.toNat:Nat):Int)=l.n by omega,← Int.mul_assoc];generalize t*l.n=x at *;have hq:(1:Int)≤(prd L (inL a):Nat):=by omega
   generalize ((prd L (inL a):Nat):Int)=q at *
   by_cases hx:x≤65537
   ·rw [show min x 65537=x by omega]
   ·rw [show min x 65537=65537 by omega];have a1:65537*1≤65537*q:=Int.mul_le_mul_of_nonneg_left hq (by omega);have a2:65537*q≤x*q:=Int.mul_le_mul_of_nonneg_right (by omega) (by omega);omega
  ·rw [if_neg hi,gH L a _ hL h1 h2];have:prd (l :: L) (inL a)=prd L (inL a):=by show (if inL a l=true then l.n.toNat else 1)*_=_;rw [if_neg hi,Nat.one_mul]
   rw [this]
theorem wP (L:List Lp) (hn:∀ m∈L,1≤m.n):∀ (n k:Nat) (s:Int),qm L n k s≤65536→0≤s→qm L n k s=s+(sm n (fun i=>prd L (inL ((k+i:Nat):Int))):Nat)
 | 0,k,s,_,_=>by unfold qm sm;omega
 | n+1,k,s,hs,h0=>by
  have mono:∀ (n k:Nat) (s:Int),0≤s→s≤qm L n k s:=by
   intro n
   induction n with
   | zero=>intro k s _;unfold qm;omega
   | succ n ih=>
    intro k s h0;unfold qm;have:1≤dg k L 1:=by
     rw [gH L k 1 hn (by omega) (by omega)];have:=mt (p:=inL k) hn;omega
    have:=ih (k+1) (s+dg k L 1) (by omega);omega
  have e:qm L (n+1) k s=qm L n (k+1) (s+dg k L 1):=rfl;rw [e] at hs⊢;have ht:1≤dg k L 1∧dg k L 1=min (1*((prd L (inL k):Nat):Int)) 65537:=by
   have t1:=gH L k 1 hn (by omega) (by omega);have:=mt (p:=inL (k:Int)) hn;refine ⟨by omega,t1⟩
  have hm:=mono n (k+1) (s+dg k L 1) (by omega);rw [wP L hn n (k+1) _ hs (by omega)];have shift:∀ (n:Nat) (f:Nat→Nat),sm (n+1) f=f 0+sm n (fun i=>f (i+1)):=by
   intro n
   induction n with
   | zero=>intro f;simp [sm]
   | succ n ih=>intro f;rw [sm,ih f,sm];omega
  rw [shift];have e2:sm n (fun i=>prd L (inL ((k+1+i:Nat):Int)))=sm n (fun i=>prd L (inL ((k+(i+1):Nat):Int))):=d5 fun i _=>by rw [show k+1+i=k+(i+1) by omega]
  rw [e2];have e3:dg k L 1=(prd L (inL ((k+0:Nat):Int)):Nat):=by
   rw [Nat.add_zero];omega
  rw [e3];push_cast;omega
theorem steps_sm {c:Cd} (h:GdC c) (hs:iH c≤65536) (lo:List Int):iH c=(Ph c (fun _=>1) 0 lo:Nat):=by
 unfold iH at *;rw [wP c.loops (fun m hm=>by have:=h.lp m hm;omega) _ _ _ hs (by omega),Ph_zero h,Int.zero_add];have:sm c.ins.length (fun i=>prd c.loops (inL ((0+i:Nat):Int)))=sm c.ins.length (fun i=>1*prd c.loops (fun m=>inL i m)):=d5 fun i _=>by rw [Nat.one_mul,Nat.zero_add]
 rw [this]
theorem doM_lo (c:Cd) (i:Ins) (s:Mc):(doM c i s).lo=if i.1=3 then s.lo.set i.2.toNat (s.st.headD 0) else if i.1=14 then s.lo.set (lpA c i.2).loc.toNat (s.lo.getD (lpA c i.2).loc.toNat 0+1) else s.lo:=by
 unfold doM;simp only [apply_ite Mc.lo]
 by_cases h3:i.1=3
 ·simp [h3]
 ·by_cases h14:i.1=14
  ·simp [h14]
  ·simp [h3,h14]
theorem doM_at (c:Cd) (i:Ins) (s:Mc):(doM c i s).at_=if i.1=12 then i.2.toNat else if i.1=13 then (if s.st.headD 0=0 then i.2.toNat else s.at_)
  else if i.1=14 then (if s.lo.getD (lpA c i.2).loc.toNat 0+1 < (lpA c i.2).n then (lpA c i.2).fr.toNat else s.at_) else s.at_:=by
 unfold doM;simp only [apply_ite Mc.at_]
 by_cases h3:i.1=12
 ·simp [h3]
 ·by_cases h14:i.1=13
  ·simp [h14]
  ·by_cases h5:i.1=14
   ·simp [h5]
   ·simp [h3,h14,h5]
theorem doM_st (c:Cd) (i:Ins) (s:Mc) (h1:1≤i.1) (h2:i.1≤16) (h:(mvs i.1).1≤s.st.length):((doM c i s).st.length:Int)=s.st.length - (mvs i.1).1+(mvs i.1).2:=by
 have:i.1=1∨i.1=2∨i.1=3∨i.1=4∨i.1=5∨i.1=6∨i.1=7∨i.1=8∨i.1=9∨i.1=10∨i.1=11∨i.1=12∨i.1=13∨i.1=14∨i.1=15∨i.1=16:=by omega
 revert h;rcases this with e | e | e | e | e | e | e | e | e | e | e | e | e | e | e | e<;>simp [doM,mvs,e]<;>omega
theorem doM_one (c:Cd) (s:Mc):(doM c (1,0) s).st=0 :: s.st:=by simp [doM]
theorem doM_len (c:Cd) (i:Ins) (s:Mc):(doM c i s).lo.length=s.lo.length∧(doM c i s).pg.length=s.pg.length:=by
 constructor
 ·rw [doM_lo];split
  ·simp
  ·split<;>simp
 ·have h1:∀ k a b,(tY k s.pg a b).length=s.pg.length:=by
   intro k a b;unfold tY;(repeat' split)<;>simp
  have h2:∀ a b,(swpC s.pg a b).length=s.pg.length:=by
   intro a b;unfold swpC;(repeat' split)<;>simp
  unfold doM;simp only [apply_ite Mc.pg,apply_ite List.length,h1,h2,ite_self]
theorem mu {c:Cd} {k:Nat} {i:Ins} (h:dY c k i=true):1≤i.1∧i.1≤16:=by
 unfold dY at h;split at h
 ·omega
 ·split at h
  ·omega
  ·split at h
   ·omega
   ·split at h
    ·omega
    ·simpa using h
theorem mv {c:Cd} {k:Nat} {i:Ins} (h:dY c k i=true) (hi:i.1=2∨i.1=3):0≤i.2∧i.2 < c.locals:=by
 unfold dY at h;rw [if_pos hi] at h;simpa [wG] using h
theorem eE {c:Cd} {k:Nat} {i:Ins} (h:dY c k i=true) (hi:i.1=12∨i.1=13):(k:Int) < i.2∧i.2≤c.ins.length:=by
 unfold dY at h;rw [if_neg (by omega),if_neg (by omega),if_pos hi] at h;simpa using h
theorem eY {c:Cd} {k:Nat} {i:Ins} (h:dY c k i=true) (hi:i.1=14):c.loops[i.2.toNat]?=some (lpA c i.2)∧(lpA c i.2).lst=k∧0≤i.2:=by
 unfold dY at h;rw [if_neg (by omega),if_neg (by omega),if_neg (by omega),if_pos hi] at h;simp only [Bool.and_eq_true,decide_eq_true_eq] at h;refine ⟨?_,h.2,h.1.1⟩;unfold lpA;rw [List.getD_eq_getElem?_getD,List.getElem?_eq_getElem (by omega),Option.getD_some]
theorem dr (l:List Int) (a b:Nat) (x:Int):(l.set a x).getD b 0=if a=b∧b < l.length then x else l.getD b 0:=by
 rw [List.getD_eq_getElem?_getD,List.getD_eq_getElem?_getD,List.getElem?_set]
 by_cases h:a=b
 ·subst h
  by_cases h2:a < l.length
  ·rw [if_pos rfl,if_pos h2,if_pos ⟨rfl,h2⟩];rfl
  ·rw [if_pos rfl,if_neg h2,if_neg (by omega),List.getElem?_eq_none (by omega)]
 ·rw [if_neg h,if_neg (by omega)]
structure IvM (c:Cd) (F:List Int) (s:Mc):Prop where
 at_:s.at_≤c.ins.length
 st:(s.st.length:Int)=F.getD s.at_ 0
 lo:s.lo.length=64
 pg:s.pg.length=60
 lp:∀ l∈c.loops,inL s.at_ l=true→0≤s.lo.getD l.loc.toNat 0∧s.lo.getD l.loc.toNat 0 < l.n
 hd:∀ l∈c.loops,(s.at_:Int)+1=l.fr→s.st.headD 0=0
section
variable {c:Cd} (h:GdC c) (u:Nat→Nat) {k:Nat} {i:Ins} {lo:List Int}
include h
theorem GdC.uniq {l m:Lp} (hl:l∈c.loops) (hm:m∈c.loops) (e:m.fr=l.fr):m=l:=by
 have:=h.lp m hm;have:=h.lp l hl;rcases h.two m hm l hl with q | q | q | q | q
 ·exact q
 ·omega
 ·omega
 ·rw [bK] at q;omega
 ·rw [bK] at q;omega
theorem GdC.last {l m:Lp} (hl:l∈c.loops) (hm:m∈c.loops) (e:m.lst=l.lst):m=l:=by
 obtain ⟨a,ha⟩:=List.getElem?_of_mem hl;obtain ⟨b,hb⟩:=List.getElem?_of_mem hm;have h1:=(h.head ha).2.2.1;have h2:=(h.head hb).2.2.1;rw [e,h1] at h2;have:a=b:=by
  have:=Option.some.inj h2;have:=congrArg Prod.snd this;have q:(a:Int)=(b:Int):=by simpa using this
  omega
 subst this;rw [ha] at hb;exact (Option.some.inj hb).symm
theorem GdC.at_first {l:Lp} (hl:l∈c.loops) (hk:c.ins[k]?=some i) (e:(k:Int)+1=l.fr):i=(3,l.loc):=by
 obtain ⟨a,ha⟩:=List.getElem?_of_mem hl;have h1:=(h.head ha).2.1;rw [show (l.fr - 1).toNat=k by omega,hk] at h1;exact Option.some.inj h1
theorem GdC.at_push {l:Lp} (hl:l∈c.loops) (hk:c.ins[k]?=some i) (e:(k:Int)+2=l.fr):i=(1,0):=by
 obtain ⟨a,ha⟩:=List.getElem?_of_mem hl;have h1:=(h.head ha).1;rw [show (l.fr - 2).toNat=k by omega,hk] at h1;exact Option.some.inj h1
theorem GdC.at_last {l:Lp} (hl:l∈c.loops) (hk:c.ins[k]?=some i) (e:(k:Int)=l.lst):i.1=14:=by
 obtain ⟨a,ha⟩:=List.getElem?_of_mem hl;have h1:=(h.head ha).2.2.1;rw [show l.lst.toNat=k by omega,hk] at h1;rw [Option.some.inj h1]
theorem GdC.no_keep {l:Lp} (hl:l∈c.loops) (hk:c.ins[k]?=some i) (hin:inL k l=true):i≠(3,l.loc):=by
 obtain ⟨a,ha⟩:=List.getElem?_of_mem hl;rw [aG] at hin;intro e;exact (h.head ha).2.2.2 hin.1 hin.2 (by rw [hk,e])
theorem mv_fall (hk:c.ins[k]?=some i) (h12:i.1≠14) (hlo:lo.length=64) (x:Int) (hx:∀ l∈c.loops,(k:Int)+1=l.fr→x=0)
  (hin:∀ l∈c.loops,inL k l=true→0≤lo.getD l.loc.toNat 0∧lo.getD l.loc.toNat 0 < l.n) {lo':List Int} (e:lo'=if i.1=3 then lo.set i.2.toNat x else lo) :
  (∀ l∈c.loops,inL (k+1:Nat) l=true→0≤lo'.getD l.loc.toNat 0∧lo'.getD l.loc.toNat 0 < l.n)∧u k+Ph c u (k+1) lo'=Ph c u k lo:=by
 have hkl:k < c.ins.length:=(List.getElem?_eq_some_iff.1 hk).1;have notlast:∀ m∈c.loops,(k:Int)≠m.lst:=fun m hm e=>h12 (h.at_last hm hk e);have keep:∀ m∈c.loops,inL k m=true→lo'.getD m.loc.toNat 0=lo.getD m.loc.toNat 0:=by
  intro m hm hi;rw [e];split
  ·rename_i h3;have h4:=h.no_keep hm hk hi;have h5:=mv (h.ins hk) (.inr h3);have h6:=h.lp m hm;rw [dr,if_neg];intro hq;exact h4 (Prod.ext h3 (by show i.2=m.loc;omega))
  ·rfl
 by_cases hx0:∃ l0∈c.loops,(k:Int)+1=l0.fr
 ·obtain ⟨l0,hl0,ek⟩:=hx0;have ei:=h.at_first hl0 hk ek;have f0:=h.lp l0 hl0;have fit:=h.fit;have e0:lo'.getD l0.loc.toNat 0=0:=by
   rw [e,ei,if_pos rfl,dr,if_pos ⟨rfl,by omega⟩,hx l0 hl0 ek]
  have same:∀ m∈c.loops,m.fr≠l0.fr→inL (k+1:Nat) m=inL k m:=by
   intro m hm hne;have:=notlast m hm;rw [Bool.eq_iff_iff,aG,aG];omega
  have hn0:inL (k:Int) l0=false:=by rw [iJ];omega
  have hy0:inL ((k+1:Nat):Int) l0=true:=by rw [aG];omega
  constructor
  ·intro l hl hi
   by_cases he:l.fr=l0.fr
   ·rw [h.uniq hl0 hl he,e0];omega
   ·rw [same l hl he] at hi;rw [keep l hl hi];exact hin l hl hi
  ·have s:=eX (f:=pT c u (k+1) lo') (g:=pT c u k lo) h.one hl0 (fun m hm hne=>by
    unfold pT;rw [same m hm hne];cases hi:inL (k:Int) m
    ·rfl
    ·rw [keep m hm hi])
   have a:=pA_enter h u hl0 ek;have t1:pT c u k lo l0=0:=by unfold pT;rw [hn0];rfl
   have t2:pT c u (k+1) lo' l0=(l0.n.toNat - 1)*pR c u l0:=by
    unfold pT;rw [if_pos hy0,e0,show (l0.n - 1 - 0).toNat=l0.n.toNat - 1 by omega]
   unfold Ph;omega
 ·have hno:∀ m∈c.loops,(k:Int)+1≠m.fr:=fun m hm e=>hx0 ⟨m,hm,e⟩;have same:∀ m∈c.loops,inL (k+1:Nat) m=inL k m:=by
   intro m hm;have:=notlast m hm;have:=hno m hm;rw [Bool.eq_iff_iff,aG,aG];omega
  constructor
  ·intro l hl hi;rw [same l hl] at hi;rw [keep l hl hi];exact hin l hl hi
  ·have s:oZ c.loops (pT c u (k+1) lo')=oZ c.loops (pT c u k lo):=dR fun m hm=>by
    unfold pT;rw [same m hm];cases hi:inL (k:Int) m
    ·rfl
    ·rw [keep m hm hi]
   have a:=wO u hkl (fun m hm j _=>by rw [same m hm]);unfold Ph;omega
theorem mv_jump (hk:c.ins[k]?=some i) (hj:i.1=12∨i.1=13) (hin:∀ l∈c.loops,inL k l=true→0≤lo.getD l.loc.toNat 0∧lo.getD l.loc.toNat 0 < l.n) :
  (∀ l∈c.loops,inL i.2.toNat l=true→0≤lo.getD l.loc.toNat 0∧lo.getD l.loc.toNat 0 < l.n)∧u k+Ph c u i.2.toNat lo≤Ph c u k lo∧(∀ l∈c.loops,((i.2.toNat:Nat):Int)+1≠l.fr):=by
 have hkl:k < c.ins.length:=(List.getElem?_eq_some_iff.1 hk).1;have j:=eE (h.ins hk) hj;have e:((i.2.toNat:Nat):Int)=i.2:=by omega
 have same:∀ m∈c.loops,inL (k:Int) m=inL i.2.toNat m:=fun m hm=>by rw [e];exact (h.jmp hk hj m hm).1
 refine ⟨fun l hl hi=>hin l hl (by rw [same l hl];exact hi),?_,fun l hl hn=>?_⟩
 ·have s:oZ c.loops (pT c u i.2.toNat lo)=oZ c.loops (pT c u k lo):=dR fun m hm=>by unfold pT;rw [same m hm]
  have a:=pA_jump u (k':=i.2.toNat) hkl (by omega) same;unfold Ph;omega
 ·have q:=h.jmp hk hj l hl;refine q.2 ?_ (by omega);rw [q.1,iJ];omega
theorem mv_loop (hk:c.ins[k]?=some i) (hj:i.1=14) (hlo:lo.length=64) (hin:∀ l∈c.loops,inL k l=true→0≤lo.getD l.loc.toNat 0∧lo.getD l.loc.toNat 0 < l.n) {lo':List Int} {x:Int} {k':Nat}
  (ex:x=lo.getD (lpA c i.2).loc.toNat 0) (e:lo'=lo.set (lpA c i.2).loc.toNat (x+1)) (ek:k'=if x+1 < (lpA c i.2).n then (lpA c i.2).fr.toNat else k+1) :
  (∀ l∈c.loops,inL k' l=true→0≤lo'.getD l.loc.toNat 0∧lo'.getD l.loc.toNat 0 < l.n)∧u k+Ph c u k' lo'=Ph c u k lo∧(∀ l∈c.loops,(k':Int)+1≠l.fr):=by
 have hkl:k < c.ins.length:=(List.getElem?_eq_some_iff.1 hk).1;obtain ⟨hg,hlst,-⟩:=eY (h.ins hk) hj;generalize lpA c i.2=l0 at *;have hl0:=List.mem_of_getElem? hg;have f0:=h.lp l0 hl0;have fit:=h.fit;have b0:=hin l0 hl0 (by rw [aG];omega);rw [← ex] at b0;have over:∀ m∈c.loops,inL k m=true→m≠l0→sub l0 m=true:=by
  intro m hm hi hne;have f1:=h.lp m hm;rw [aG] at hi;rcases h.two l0 hl0 m hm with q | q | q | q | q
  ·exact absurd q.symm hne
  ·omega
  ·omega
  ·exact q
  ·rw [bK] at q;exact absurd (h.last hl0 hm (by omega)) hne
 have keep:∀ m∈c.loops,inL k m=true→m≠l0→lo'.getD m.loc.toNat 0=lo.getD m.loc.toNat 0:=by
  intro m hm hi hne;have f1:=h.lp m hm;have q:=over m hm hi hne;rw [bK] at q;obtain ⟨a,ha⟩:=List.getElem?_of_mem hl0;have h1:=(h.head ha).2.1;have h2:=h.no_keep hm h1 (by rw [aG];omega);rw [e,dr,if_neg];intro hq;exact h2 (Prod.ext rfl (by show l0.loc=m.loc;omega))
 have e0:lo'.getD l0.loc.toNat 0=x+1:=by rw [e,dr,if_pos ⟨rfl,by omega⟩]
 have nofirst:∀ m∈c.loops,(k:Int)+1≠m.fr:=fun m hm q=>by
  have:=h.at_first hm hk q;rw [this] at hj;cases hj
 by_cases hc:x+1 < l0.n
 ·rw [if_pos hc] at ek;subst ek;have el:((l0.fr.toNat:Nat):Int)=l0.fr:=by omega
  have same:∀ m∈c.loops,inL (k:Int) m=inL l0.fr m:=by
   intro m hm;have f1:=h.lp m hm;rw [Bool.eq_iff_iff];constructor
   ·intro hi
    by_cases hne:m=l0
    ·subst hne;rw [aG];omega
    ·have q:=over m hm hi hne;rw [bK] at q;rw [aG];omega
   ·intro hi;rw [aG] at hi⊢;rcases h.two l0 hl0 m hm with q | q | q | q | q
    ·subst q;omega
    ·omega
    ·omega
    ·rw [bK] at q;omega
    ·rw [bK] at q;omega
  refine ⟨fun l hl hi=>?_,?_,fun l hl hn=>?_⟩
  ·rw [el,← same l hl] at hi
   by_cases hne:l=l0
   ·subst hne;rw [e0];omega
   ·rw [keep l hl hi hne];exact hin l hl hi
  ·have s:=eX (f:=pT c u l0.fr.toNat lo') (g:=pT c u k lo) h.one hl0 (fun m hm hne=>by
    unfold pT;rw [el,← same m hm];cases hi:inL (k:Int) m
    ·rfl
    ·rw [keep m hm hi (fun q=>hne (by rw [q]))])
   have a:=pA_back h u hl0 hlst.symm same;have t1:pT c u k lo l0=(l0.n - 1 - (x+1)).toNat*pR c u l0+pR c u l0:=by
    unfold pT;rw [if_pos (by rw [aG];omega),← ex,show (l0.n - 1 - x).toNat=(l0.n - 1 - (x+1)).toNat+1 by omega,Nat.add_mul,Nat.one_mul]
   have t2:pT c u l0.fr.toNat lo' l0=(l0.n - 1 - (x+1)).toNat*pR c u l0:=by
    unfold pT;rw [if_pos (by rw [aG];omega),e0]
   unfold Ph;omega
  ·obtain ⟨a,ha⟩:=List.getElem?_of_mem hl0;have h1:=(h.head ha).2.1;have:=h.at_push hl h1 (by omega);cases this
 ·rw [if_neg hc] at ek;subst ek;have same:∀ m∈c.loops,m.fr≠l0.fr→inL (k+1:Nat) m=inL k m:=by
   intro m hm hne;have q:=nofirst m hm;have q2:m.lst≠k:=fun q=>hne (by rw [h.last hl0 hm (by omega)]);rw [Bool.eq_iff_iff,aG,aG];omega
  have hn0:inL ((k+1:Nat):Int) l0=false:=by rw [iJ];omega
  refine ⟨fun l hl hi=>?_,?_,fun l hl hn=>?_⟩
  ·by_cases hne:l.fr=l0.fr
   ·rw [h.uniq hl0 hl hne,hn0] at hi;cases hi
   ·rw [same l hl hne] at hi;rw [keep l hl hi (fun q=>hne (by rw [q]))];exact hin l hl hi
  ·have s:=eX (f:=pT c u (k+1) lo') (g:=pT c u k lo) h.one hl0 (fun m hm hne=>by
    unfold pT;rw [same m hm hne];cases hi:inL (k:Int) m
    ·rfl
    ·rw [keep m hm hi (fun q=>hne (by rw [q]))])
   have a:=wO u hkl (fun m hm j hjk=>by
    have q:=nofirst m hm;cases hq:inL (j:Int) m
    ·rfl
    ·rw [aG] at hq;rw [Bool.true_and,Bool.true_and];congr 1;rw [Bool.eq_iff_iff,aG,aG]
     omega)
   have t1:pT c u k lo l0=0:=by
    unfold pT;rw [if_pos (by rw [aG];omega),← ex,show (l0.n - 1 - x).toNat=0 by omega,Nat.zero_mul]
   have t2:pT c u (k+1) lo' l0=0:=by unfold pT;rw [hn0];rfl
   unfold Ph;omega
  ·have:=h.at_push hl hk (by omega);rw [this] at hj;cases hj
end
theorem doM_ok {c:Cd} {F:List Int} (h:GdC c) (hF:Hts c F) (u:Nat→Nat) {s:Mc} (iv:IvM c F s) {i:Ins} (hi:c.ins[s.at_]?=some i) :
  IvM c F (doM c i (nxM s))∧u s.at_+Ph c u (doM c i (nxM s)).at_ (doM c i (nxM s)).lo≤Ph c u s.at_ s.lo∧(i.1≠12→i.1≠13→u s.at_+Ph c u (doM c i (nxM s)).at_ (doM c i (nxM s)).lo=Ph c u s.at_ s.lo):=by
 have hkl:s.at_ < c.ins.length:=(List.getElem?_eq_some_iff.1 hi).1;have ok:=mu (h.ins hi);have ht:=hF.ins hi;unfold HtI at ht;rw [← iv.st] at ht;obtain ⟨t1,t2,t3,t4,t5⟩:=ht;have hst:=doM_st c i (nxM s) ok.1 ok.2 (by show _≤(s.st.length:Int);omega);have hlen:=doM_len c i (nxM s);have elo:=doM_lo c i (nxM s);have eat:=doM_at c i (nxM s);have n1:(nxM s).st=s.st:=rfl;have n2:(nxM s).lo=s.lo:=rfl;have n3:(nxM s).at_=s.at_+1:=rfl;have n4:(nxM s).pg=s.pg:=rfl;rw [n1] at hst;rw [n1,n2] at elo;rw [n1,n2,n3] at eat;rw [n2,n4] at hlen
 by_cases h14:i.1=14
 ·rw [if_neg (by omega),if_pos h14] at elo;rw [if_neg (by omega),if_neg (by omega),if_pos h14] at eat;obtain ⟨a1,a2,a3⟩:=mv_loop h u hi h14 iv.lo iv.lp rfl elo eat;obtain ⟨hg,hlst,-⟩:=eY (h.ins hi) h14;have hl0:=List.mem_of_getElem? hg;have f0:=h.lp _ hl0;refine ⟨⟨?_,?_,by rw [hlen.1];exact iv.lo,by rw [hlen.2];exact iv.pg,a1,fun l hl hn=>absurd hn (a3 l hl)⟩,by omega,fun _ _=>a2⟩
  ·rw [eat];split<;>omega
  ·rw [hst,eat,show (mvs i.1).2=0 by rw [h14];rfl,t3 h14];split
   ·rw [hF.lps _ hl0];rfl
   ·rw [t4 (by omega),show (mvs i.1).2=0 by rw [h14];rfl,t3 h14]
 ·rw [if_neg h14] at elo;rw [if_neg h14] at eat;have fall:(doM c i (nxM s)).at_=s.at_+1→i.1≠12→IvM c F (doM c i (nxM s))∧u s.at_+Ph c u (doM c i (nxM s)).at_ (doM c i (nxM s)).lo=Ph c u s.at_ s.lo:=by
   intro ea h12;obtain ⟨a1,a2⟩:=mv_fall h u hi h14 iv.lo (s.st.headD 0) (fun l hl e=>iv.hd l hl e) iv.lp elo;rw [← ea] at a1 a2;refine ⟨⟨by omega,?_,by rw [hlen.1];exact iv.lo,by rw [hlen.2];exact iv.pg,a1,fun l hl hn=>?_⟩,a2⟩
   ·rw [hst,ea,t4 h12]
   ·have:=h.at_push hl hi (by omega);rw [this,doM_one];rfl
  have jump:(doM c i (nxM s)).at_=i.2.toNat→(i.1=12∨i.1=13)→IvM c F (doM c i (nxM s))∧u s.at_+Ph c u (doM c i (nxM s)).at_ (doM c i (nxM s)).lo≤Ph c u s.at_ s.lo:=by
   intro ea hj;rw [if_neg (by omega)] at elo;obtain ⟨a1,a2,a3⟩:=mv_jump h u hi hj iv.lp;rw [← ea,← elo] at a1;rw [← ea] at a3;have j:=eE (h.ins hi) hj;refine ⟨⟨by rw [ea];omega,?_,by rw [hlen.1];exact iv.lo,by rw [hlen.2];exact iv.pg,a1,fun l hl hn=>absurd hn (a3 l hl)⟩,by rw [ea,elo];exact a2⟩;rw [hst,ea,t5 hj]
  by_cases h12:i.1=12
  ·rw [if_pos h12] at eat;obtain ⟨a,b⟩:=jump eat (.inl h12);exact ⟨a,b,fun hn _=>absurd h12 hn⟩
  ·rw [if_neg h12] at eat
   by_cases h13:i.1=13
   ·rw [if_pos h13] at eat;split at eat
    ·obtain ⟨a,b⟩:=jump eat (.inr h13);exact ⟨a,b,fun _ hn=>absurd h13 hn⟩
    ·obtain ⟨a,b⟩:=fall eat h12;exact ⟨a,by omega,fun _ hn=>absurd h13 hn⟩
   ·rw [if_neg h13] at eat;obtain ⟨a,b⟩:=fall eat h12;exact ⟨a,by omega,fun _ _=>b⟩
theorem inM_ok {c:Cd} {F:List Int} (h:GdC c) (hF:Hts c F) {pg args:List Int} (hp:pg.length=60) (ha:args.length≤64):IvM c F (inM pg args):=by
 refine ⟨Nat.zero_le _,?_,?_,hp,fun l hl hi=>?_,fun l hl hn=>?_⟩
 ·show (0:Int)=F.getD 0 0;rw [hF.zero]
 ·show (args++List.replicate (64 - args.length) 0).length=64;simp;omega
 ·have:=h.lp l hl;have e:(inM pg args).at_=0:=rfl;rw [e,aG] at hi;omega
 ·rfl
end Go.Proofs.YtcebchffcmpfeaaGreat
