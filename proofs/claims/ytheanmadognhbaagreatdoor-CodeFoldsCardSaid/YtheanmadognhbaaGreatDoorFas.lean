import Derived.Test.YtheanmadognhbaaGreatDoorCcs
import Derived.Test.YtheanmadognhbaaGreatDoorHfs
namespace Go.Proofs.YtheanmadognhbaaGreatDoor
open Go.RowKit Go.Maps
set_option linter.unusedSimpArgs false
set_option linter.unusedVariables false
abbrev tB:Sec:=[59,32,125]
abbrev tA:Sec:=[111,112,32,111,40,41,32,123,32,91,48,93,32,61,32]
abbrev kt (t:Tok):Nat×Sec:=(t.kind,t.text)
theorem gap_tB:∀ (b:Bool) (X:Sec),gapN b X=X.length→gapN b (X++tB)=(X++tB).length∨gapN b (X++tB)=X.length
 | true,[],_=>.inl (by decide)
 | false,[],_=>.inr (by decide)
 | true,c :: r,h=>by
  simp only [gapN,List.length_cons,List.cons_append] at h⊢
  rcases gap_tB (isRem c) r (by omega) with e | e
  ·exact .inl (by rw [e])
  ·exact .inr (by rw [e])
 | false,c :: r,h=>by
  simp only [gapN,List.length_cons,List.cons_append] at h⊢
  split at h
  ·rename_i hc
   rw [if_pos hc]
   rcases gap_tB false r (by omega) with e | e
   ·exact .inl (by rw [e])
   ·exact .inr (by rw [e])
  ·rename_i hc
   rw [if_neg hc]
   split at h
   ·rename_i h2
    rw [if_pos h2]
    rcases gap_tB true r (by omega) with e | e
    ·exact .inl (by rw [e])
    ·exact .inr (by rw [e])
   ·omega
theorem no_semi {l:Sec} {kd z i:Nat} (h:firstN l=(kd,z)) (h0:0 < i) (hi:i < z) (hc:l[i]?=some 59):False:=by
 unfold firstN at h
 split at h
 ·obtain ⟨-,h⟩:=Prod.mk.inj h
  rename_i hn
  unfold nameN at h hn
  split at h
  ·have:=runN_all isWrd l i 59 (by omega) hc
   revert this
   decide
  ·omega
 ·split at h
  ·obtain ⟨-,h⟩:=Prod.mk.inj h
   unfold numN at h
   split at h
   ·omega
   ·have:=runN_all isDig l i 59 (by omega) hc
    revert this
    decide
  ·obtain ⟨-,h⟩:=Prod.mk.inj h
   unfold signN at h
   split at h
   ·rename_i ht
    have hi1:i=1:=by omega
    subst hi1
    match l,hc,ht with
    | [],hc,_=>simp at hc
    | [a],hc,_=>simp at hc
    | a :: b :: r,hc,ht=>
     simp at hc
     subst hc
     simp [twos] at ht
   ·split at h<;>omega
theorem lex_tB (p:Nat):lexG p tB=.ok [⟨3,[59],p⟩,⟨3,[125],p+2⟩,⟨4,[],p+3⟩]:=by
 unfold tB
 rw [lexG_step p 59 [32,125] (by decide) (by decide),if_neg (by decide),show (firstN [59,32,125])=(3,1) by decide]
 show (lexG (p+1) [32,125]).map _=_
 rw [lexG_blank (p+1) 32 [125] (by decide),lexG_step (p+1+1) 125 [] (by decide) (by decide),if_neg (by decide),show (firstN [125])=(3,1) by decide]
 show ((lexG (p+1+1+1) []).map _).map _=_
 rw [lexG_nil]
 rfl
theorem lexG_gaps {p:Nat} {X:Sec} (h:gapN false X=X.length):lexG p X=.ok [⟨4,[],p+X.length⟩]:=by
 rw [← lexG_gap,h,List.drop_length,lexG_nil]
theorem lex_app:∀ (n:Nat) (X:Sec) (p:Nat) (tf:List Tok),X.length≤n→lexG p (X++tB)=.ok tf→
  ∃ us R q,tf=us++R∧lexG p X=.ok (us++[⟨4,[],q⟩])∧(R.map kt=[(4,[])]∨R.map kt=[(3,[59]),(3,[125]),(4,[])]):=by
 intro n
 induction n with
 | zero=>
  intro X p tf hX h
  obtain rfl:X=[]:=List.eq_nil_of_length_eq_zero (by omega)
  rw [List.nil_append,lex_tB] at h
  cases h
  exact ⟨[],_,p,rfl,lexG_nil p,.inr rfl⟩
 | succ n ih=>
  intro X p tf hX h
  have hgl:=lexG_gap p (X++tB)
  have hgt:=gapN_take false (X++tB) X.length
  rw [List.take_left] at hgt
  have hgle:=gapN_le false (X++tB)
  rcases lexG_cases h with ⟨h1,rfl⟩ | ⟨us0,kd,z,e0,hf,hz,hzl,hu⟩
  ·have hgx:gapN false X=X.length:=by rw [List.length_append] at h1;omega
   exact ⟨[],_,_,rfl,lexG_gaps hgx,.inl rfl⟩
  ·obtain ⟨g,hge⟩:∃ g,gapN false (X++tB)=g:=⟨_,rfl⟩
   rw [hge] at hgl hgt hgle e0 hf hzl hu
   by_cases hg:g < X.length
   ·have hgx:gapN false X=g:=by omega
    have hd:(X++tB).drop g=X.drop g++tB:=List.drop_append_of_le_length (by omega)
    have hyl:0 < (X.drop g).length:=by rw [List.length_drop];omega
    rw [hd] at hf
    have hz2:z≤(X.drop g).length:=by
     apply Classical.byContradiction
     intro hn
     exact no_semi hf hyl (by omega) (by rw [List.getElem?_append_right (Nat.le_refl _),Nat.sub_self];rfl)
    have hfy:firstN (X.drop g)=(kd,z):=by
     have:=firstN_take hf hz hz2
     rwa [List.take_left] at this
    have hd2:(X++tB).drop (g+z)=X.drop (g+z)++tB:=List.drop_append_of_le_length (by rw [List.length_drop] at hz2;omega)
    rw [hd2] at hu
    obtain ⟨us,R,q,e1,e2,e3⟩:=ih (X.drop (g+z)) _ us0 (by rw [List.length_drop];omega) hu
    refine ⟨⟨kd,(X.drop g).take z,p+g⟩ :: us,R,q,?_,?_,e3⟩
    ·rw [e0,e1,hd,List.take_append_of_le_length hz2]
     rfl
    ·rw [← lexG_gap p X,hgx]
     rw [show X.drop (g+z)=(X.drop g).drop z by rw [List.drop_drop]] at e2
     cases hx:X.drop g with
     | nil=>rw [hx] at hyl;simp at hyl
     | cons c r=>
      have hc:X[gapN false X]?=some c:=by rw [hgx,← List.head?_drop,hx];rfl
      obtain ⟨h1,h2⟩:=gapN_end false X c hc
      rw [hx] at hfy e2
      rw [lexG_step _ c r h1 h2,hfy,if_neg (by omega),e2]
      rfl
   ·have hgx:gapN false X=X.length:=by omega
    have hg2:g=X.length:=by
     have:=gap_tB false X hgx
     rw [hge] at this
     rw [List.length_append] at this hzl hgle
     rcases this with e | e
     ·omega
     ·exact e
    rw [hg2,List.drop_left,lex_tB,h] at hgl
    injection hgl with hgl
    exact ⟨[],_,_,hgl.symm,lexG_gaps hgx,.inr rfl⟩
theorem lexN_place:∀ (n:Nat) (l:Sec) (p q:Nat) (ts:List Tok),lexN n p l=.ok ts→∃ us,lexN n q l=.ok us∧us.map kt=ts.map kt
 | 0,l,p,q,ts,h=>by
  unfold lexN at h⊢
  cases h
  exact ⟨_,rfl,rfl⟩
 | n+1,l,p,q,ts,h=>by
  unfold lexN at h⊢
  split at h
  ·rename_i hl
   rw [if_pos hl]
   cases h
   exact ⟨_,rfl,rfl⟩
  ·rename_i hl
   rw [if_neg hl]
   split at h
   ·cases h
   ·rename_i hz
    rw [if_neg hz]
    cases hx:lexN n (p+(firstN l).2+gapN false (l.drop (firstN l).2)) (l.drop ((firstN l).2+gapN false (l.drop (firstN l).2))) with
    | error e=>rw [hx] at h;cases h
    | ok us=>
     rw [hx] at h
     cases h
     obtain ⟨us',e1,e2⟩:=lexN_place n _ _ (q+(firstN l).2+gapN false (l.drop (firstN l).2)) us hx
     rw [e1]
     exact ⟨_,rfl,by rw [List.map_cons,List.map_cons,e2]⟩
theorem lexG_place {l:Sec} {p:Nat} (q:Nat) {ts:List Tok} (h:lexG p l=.ok ts):∃ us,lexG q l=.ok us∧us.map kt=ts.map kt:=lexN_place _ _ _ _ _ h
def hd9:List Tok:=[⟨1,[111,112],0⟩,⟨1,[111],3⟩,⟨3,[40],4⟩,⟨3,[41],5⟩,⟨3,[123],7⟩,⟨3,[91],9⟩,⟨2,[48],10⟩,⟨3,[93],11⟩,⟨3,[61],13⟩]
theorem lexG_tok {p:Nat} {c:UInt8} {r:Sec} (kd z:Nat) (h1:isBlk c=false) (h2:c.toNat≠35) (hf:firstN (c :: r)=(kd,z)) (hz:z≠0):lexG p (c :: r)=(lexG (p+z) ((c :: r).drop z)).map (⟨kd,(c :: r).take z,p⟩ :: ·):=by
 rw [lexG_step p c r h1 h2,hf,if_neg hz]
theorem lex_tA (Y:Sec):lexG 0 (tA++Y)=(lexG 15 Y).map (hd9++·):=by
 show lexG 0 (111 :: 112 :: 32 :: 111 :: 40 :: 41 :: 32 :: 123 :: 32 :: 91 :: 48 :: 93 :: 32 :: 61 :: 32 :: Y)=_
 have t8:lexG 13 (61 :: 32 :: Y)=(lexG 15 Y).map ([⟨3,[61],13⟩]++·):=by
  rw [lexG_tok 3 1 (by decide) (by decide) (by rfl) (by decide)]
  show (lexG 14 (32 :: Y)).map _=_
  rw [lexG_blank 14 32 _ (by decide)]
  cases lexG 15 Y<;>rfl
 have t7:lexG 11 (93 :: 32 :: 61 :: 32 :: Y)=(lexG 15 Y).map ([⟨3,[93],11⟩,⟨3,[61],13⟩]++·):=by
  rw [lexG_tok 3 1 (by decide) (by decide) (by rfl) (by decide)]
  show (lexG 12 (32 :: 61 :: 32 :: Y)).map _=_
  rw [lexG_blank 12 32 _ (by decide)]
  show (lexG 13 (61 :: 32 :: Y)).map _=_
  rw [t8]
  cases lexG 15 Y<;>rfl
 have t6:lexG 10 (48 :: 93 :: 32 :: 61 :: 32 :: Y)=(lexG 15 Y).map ([⟨2,[48],10⟩,⟨3,[93],11⟩,⟨3,[61],13⟩]++·):=by
  rw [lexG_tok 2 1 (by decide) (by decide) (by rfl) (by decide)]
  show (lexG 11 (93 :: 32 :: 61 :: 32 :: Y)).map _=_
  rw [t7]
  cases lexG 15 Y<;>rfl
 have t5:lexG 9 (91 :: 48 :: 93 :: 32 :: 61 :: 32 :: Y)=(lexG 15 Y).map ([⟨3,[91],9⟩,⟨2,[48],10⟩,⟨3,[93],11⟩,⟨3,[61],13⟩]++·):=by
  rw [lexG_tok 3 1 (by decide) (by decide) (by rfl) (by decide)]
  show (lexG 10 (48 :: 93 :: 32 :: 61 :: 32 :: Y)).map _=_
  rw [t6]
  cases lexG 15 Y<;>rfl
 have t4:lexG 7 (123 :: 32 :: 91 :: 48 :: 93 :: 32 :: 61 :: 32 :: Y)=(lexG 15 Y).map ([⟨3,[123],7⟩,⟨3,[91],9⟩,⟨2,[48],10⟩,⟨3,[93],11⟩,⟨3,[61],13⟩]++·):=by
  rw [lexG_tok 3 1 (by decide) (by decide) (by rfl) (by decide)]
  show (lexG 8 (32 :: 91 :: 48 :: 93 :: 32 :: 61 :: 32 :: Y)).map _=_
  rw [lexG_blank 8 32 _ (by decide)]
  show (lexG 9 (91 :: 48 :: 93 :: 32 :: 61 :: 32 :: Y)).map _=_
  rw [t5]
  cases lexG 15 Y<;>rfl
 have t3:lexG 5 (41 :: 32 :: 123 :: 32 :: 91 :: 48 :: 93 :: 32 :: 61 :: 32 :: Y)=(lexG 15 Y).map ([⟨3,[41],5⟩,⟨3,[123],7⟩,⟨3,[91],9⟩,⟨2,[48],10⟩,⟨3,[93],11⟩,⟨3,[61],13⟩]++·):=by
  rw [lexG_tok 3 1 (by decide) (by decide) (by rfl) (by decide)]
  show (lexG 6 (32 :: 123 :: 32 :: 91 :: 48 :: 93 :: 32 :: 61 :: 32 :: Y)).map _=_
  rw [lexG_blank 6 32 _ (by decide)]
  show (lexG 7 (123 :: 32 :: 91 :: 48 :: 93 :: 32 :: 61 :: 32 :: Y)).map _=_
  rw [t4]
  cases lexG 15 Y<;>rfl
 have t2:lexG 4 (40 :: 41 :: 32 :: 123 :: 32 :: 91 :: 48 :: 93 :: 32 :: 61 :: 32 :: Y)=(lexG 15 Y).map ([⟨3,[40],4⟩,⟨3,[41],5⟩,⟨3,[123],7⟩,⟨3,[91],9⟩,⟨2,[48],10⟩,⟨3,[93],11⟩,⟨3,[61],13⟩]++·):=by
  rw [lexG_tok 3 1 (by decide) (by decide) (by rfl) (by decide)]
  show (lexG 5 (41 :: 32 :: 123 :: 32 :: 91 :: 48 :: 93 :: 32 :: 61 :: 32 :: Y)).map _=_
  rw [t3]
  cases lexG 15 Y<;>rfl
 have t1:lexG 3 (111 :: 40 :: 41 :: 32 :: 123 :: 32 :: 91 :: 48 :: 93 :: 32 :: 61 :: 32 :: Y)=(lexG 15 Y).map ([⟨1,[111],3⟩,⟨3,[40],4⟩,⟨3,[41],5⟩,⟨3,[123],7⟩,⟨3,[91],9⟩,⟨2,[48],10⟩,⟨3,[93],11⟩,⟨3,[61],13⟩]++·):=by
  rw [lexG_tok 1 1 (by decide) (by decide) (by rfl) (by decide)]
  show (lexG 4 (40 :: 41 :: 32 :: 123 :: 32 :: 91 :: 48 :: 93 :: 32 :: 61 :: 32 :: Y)).map _=_
  rw [t2]
  cases lexG 15 Y<;>rfl
 have t0:lexG 0 (111 :: 112 :: 32 :: 111 :: 40 :: 41 :: 32 :: 123 :: 32 :: 91 :: 48 :: 93 :: 32 :: 61 :: 32 :: Y)=(lexG 15 Y).map ([⟨1,[111,112],0⟩,⟨1,[111],3⟩,⟨3,[40],4⟩,⟨3,[41],5⟩,⟨3,[123],7⟩,⟨3,[91],9⟩,⟨2,[48],10⟩,⟨3,[93],11⟩,⟨3,[61],13⟩]++·):=by
  rw [lexG_tok 1 2 (by decide) (by decide) (by rfl) (by decide)]
  show (lexG 2 (32 :: 111 :: 40 :: 41 :: 32 :: 123 :: 32 :: 91 :: 48 :: 93 :: 32 :: 61 :: 32 :: Y)).map _=_
  rw [lexG_blank 2 32 _ (by decide)]
  show (lexG 3 (111 :: 40 :: 41 :: 32 :: 123 :: 32 :: 91 :: 48 :: 93 :: 32 :: 61 :: 32 :: Y)).map _=_
  rw [t1]
  cases lexG 15 Y<;>rfl
 exact t0
end Go.Proofs.YtheanmadognhbaaGreatDoor
namespace Go.Proofs.YtheanmadognhbaaGreatDoor
open Go.RowKit Go.Maps
set_option linter.unusedSimpArgs false
set_option linter.unusedVariables false
theorem fixE_mk {k n:Int} {nm:Sec} {xs:List E} {p:Int} (h3:k≠3) (h2:k≠2) (h:fixL xs=true):fixE (.mk k n nm xs p)=true:=by
 unfold fixE
 rw [if_neg h3,if_neg h2,h]
theorem fixL_one {e:E} (h:fixE e=true):fixL [e]=true:=by unfold fixL;rw [h];unfold fixL;rfl
theorem fixL_two {e f:E} (h:fixE e=true) (h2:fixE f=true):fixL [e,f]=true:=by unfold fixL;rw [h,fixL_one h2];rfl
section
variable {ts:List Tok} (NN:∀ j,9≤j→isT ts j [91]=false∧(kAt ts j=1→isT ts j [116,114,117,101]=true∨isT ts j [102,97,108,115,101]=true))
include NN
theorem expr_fix:∀ f:Nat,
  (∀ i least dp e a,9≤i→exprR ts f i least dp=.ok (e,a)→fixE e=true∧9≤a)∧(∀ l i least most dp e a,9≤i→fixE l=true→loopR ts f l i least most dp=.ok (e,a)→fixE e=true∧9≤a)∧
  (∀ i dp e a,9≤i→smallR ts f i dp=.ok (e,a)→fixE e=true∧9≤a)∧(∀ i dp b c e a,9≤i→aroundR ts f i dp b c=.ok (e,a)→fixE e=true∧9≤a):=by
 intro f
 induction f with
 | zero=>
  refine ⟨fun i _ _ e a _ h=>?_,fun _ i _ _ _ e a _ _ h=>?_,fun i _ e a _ h=>?_,fun i _ _ _ e a _ h=>?_⟩
  ·unfold exprR at h;cases h
  ·unfold loopR at h;cases h
  ·unfold smallR at h;cases h
  ·unfold aroundR at h;cases h
 | succ f ih=>
  obtain ⟨ih1,ih2,ih3,ih4⟩:=ih
  refine ⟨fun i least dp e a hi h=>?_,fun l i least most dp e a hi hl h=>?_,fun i dp e a hi h=>?_,fun i dp b c e a hi h=>?_⟩
  ·unfold exprR at h
   split at h
   ·cases h
   ·rename_i l b hs
    obtain ⟨g1,g2⟩:=ih3 _ _ _ _ hi hs
    exact ih2 _ _ _ _ _ _ _ g2 g1 h
  ·unfold loopR at h
   split at h
   ·rename_i hc
    split at h
    ·cases h
    ·rename_i r b hs
     obtain ⟨g1,g2⟩:=ih1 _ _ _ _ _ (by omega) hs
     exact ih2 _ _ _ _ _ _ _ g2 (fixE_mk (by decide) (by decide) (fixL_two hl g1)) h
   ·cases h
    exact ⟨hl,hi⟩
  ·unfold smallR at h
   split at h
   ·split at h
    ·cases h
    ·split at h
     ·cases h
     ·rename_i e' b hs
      cases h
      obtain ⟨g1,g2⟩:=ih3 _ _ _ _ (by omega) hs
      exact ⟨fixE_mk (by split<;>decide) (by split<;>decide) (fixL_one g1),g2⟩
   ·rw [(NN i hi).1,if_neg (by decide)] at h
    split at h
    ·exact ih4 _ _ _ _ _ _ hi h
    ·split at h
     ·cases h
      exact ⟨fixE_mk (by decide) (by decide) (by unfold fixL;rfl),by omega⟩
     ·split at h
      ·rename_i ht
       cases h
       refine ⟨?_,by omega⟩
       unfold fixE
       rw [if_neg (by decide),if_pos rfl]
       unfold isTF
       unfold isT at ht
       simp only [Bool.and_eq_true,beq_iff_eq] at ht
       rcases ht with ht | ht<;>simp [ht.2]
      ·rename_i ht
       split at h
       ·cases h
       ·rename_i s b hw
        unfold wordT at hw
        split at hw
        ·rename_i hk
         exact absurd ((NN i hi).2 hk.1) ht
        ·cases hw
  ·unfold aroundR at h
   split at h
   ·cases h
   ·split at h
    ·split at h
     ·cases h
     ·rename_i e' b' hs
      split at h
      ·cases h
      ·rename_i a2 he
       cases h
       obtain ⟨g1,g2⟩:=ih1 _ _ _ _ _ (by omega) hs
       unfold eatT at he
       split at he
       ·cases he
        exact ⟨g1,by omega⟩
       ·cases he
    ·cases h
end
theorem head_f (tq:List Tok):headR (hd9++tq)=.ok (([111],[]),5):=rfl
theorem needs_f (tq:List Tok) (f:Nat):needsR (hd9++tq) (f+1) 5=.ok ([],5):=rfl
theorem small_f (tq:List Tok) (f:Nat):smallR (hd9++tq) (f+1) 6 2=.ok (.mk 1 (numW [48]) [] [] ((10:Nat):Int),7):=by
 unfold smallR
 rw [if_neg (by rw [show isT (hd9++tq) 6 [33]=false from rfl,show isT (hd9++tq) 6 [45]=false from rfl];decide),if_neg (by rw [show isT (hd9++tq) 6 [91]=false from rfl];decide),if_neg (by rw [show isT (hd9++tq) 6 [40]=false from rfl];decide),if_pos (show kAt (hd9++tq) 6=2 from rfl)]
 rfl
theorem loop_f (tq:List Tok) (f:Nat) (l:E):loopR (hd9++tq) (f+1) l 7 1 5 2=.ok (l,7):=by
 unfold loopR
 rw [show xAt (hd9++tq) 7=[93] from rfl,if_neg (fun h=>h.2 (by decide))]
theorem around_f (tq:List Tok) (f:Nat):aroundR (hd9++tq) (f+4) 5 1 [91] [93]=.ok (.mk 1 (numW [48]) [] [] ((10:Nat):Int),8):=by
 unfold aroundR
 rw [if_neg (by omega),if_pos (show isT (hd9++tq) 5 [91]=true from rfl)]
 unfold exprR
 rw [small_f tq (f+1)]
 dsimp only
 rw [loop_f tq (f+1)]
 rfl
def OneSet (d:Df):Prop:=∃ (e:E) (p1 p2:Int),d=⟨[111],[],[],[.mk 2 [] [.mk 1 0 [] [] p1,e] 0 [] [] p2],[]⟩∧fixE e=true
theorem parse_f {us R:List Tok} (hn:∀ t∈us,¬ (t.kind=1∧t.text≠[116,114,117,101]∧t.text≠[102,97,108,115,101])∧t.text≠[91]∧t.text≠[59]∧t.text≠[123]∧t.text≠[125])
  (hR:R.map kt=[(4,[])]∨R.map kt=[(3,[59]),(3,[125]),(4,[])]) {d:Df} (hp:parseR (hd9++(us++R))=.ok d):OneSet d:=by
 obtain ⟨ts,hts⟩:∃ ts,ts=hd9++(us++R):=⟨_,rfl⟩
 have hlen:9≤ts.length:=by rw [hts,List.length_append];show 9≤9+_;omega
 have hget:∀ j,9≤j→ts[j]?=(us++R)[j - 9]?:=fun j hj=>by rw [hts,List.getElem?_append_right (by exact hj)];rfl
 have hin:∀ j t,9≤j→us[j - 9]?=some t→kAt ts j=t.kind∧xAt ts j=t.text:=fun j t hj ht=>by
  have hl:=(List.getElem?_eq_some_iff.1 ht).1
  have:=hget j hj
  rw [List.getElem?_append_left hl,ht] at this
  unfold kAt xAt
  rw [this]
  exact ⟨rfl,rfl⟩
 have hout:∀ j,9+us.length≤j→kAt ts j=(((R.map kt)[j - 9 - us.length]?).getD (4,[])).1∧xAt ts j=(((R.map kt)[j - 9 - us.length]?).getD (4,[])).2:=fun j hj=>by
  have:=hget j (by omega)
  rw [List.getElem?_append_right (by omega)] at this
  unfold kAt xAt
  rw [this,List.getElem?_map]
  cases R[j - 9 - us.length]?<;>exact ⟨rfl,rfl⟩
 have hoff:∀ j,9+us.length≤j→kAt ts j≠1∧xAt ts j≠[91]:=fun j hj=>by
  obtain ⟨e1,e2⟩:=hout j hj
  rw [e1,e2]
  generalize j - 9 - us.length=i
  rcases hR with h | h<;>rw [h]
  ·match i with
   | 0=>decide
   | i+1=>simp
  ·match i with
   | 0=>decide
   | 1=>decide
   | 2=>decide
   | i+3=>simp
 have NN:∀ j,9≤j→isT ts j [91]=false∧(kAt ts j=1→isT ts j [116,114,117,101]=true∨isT ts j [102,97,108,115,101]=true):=fun j hj=>by
  rcases Nat.lt_or_ge j (9+us.length) with hlt | hge
  ·obtain ⟨t,ht⟩:∃ t,us[j - 9]?=some t:=⟨_,List.getElem?_eq_getElem (by omega)⟩
   obtain ⟨e1,e2⟩:=hin j t hj ht
   obtain ⟨n1,n2,-⟩:=hn t (List.mem_of_getElem? ht)
   unfold isT
   rw [e1,e2]
   refine ⟨by simp [n2],fun hk=>?_⟩
   rw [hk]
   by_cases h1:t.text=[116,114,117,101]
   ·left;rw [h1];decide
   ·right
    have h2:t.text=[102,97,108,115,101]:=Classical.byContradiction fun h2=>n1 ⟨hk,h1,h2⟩
    rw [h2];decide
  ·obtain ⟨e1,e2⟩:=hoff j hge
   unfold isT
   exact ⟨by simp [e2],fun hk=>absurd hk e1⟩
 have hsemi:∀ b,9≤b→isT ts b [59]=true→isT ts (b+1) [125]=true∧isT ts (b+1) [103,105,118,101]=false:=fun b hb hs=>by
  unfold isT at hs
  rw [Bool.and_eq_true,beq_iff_eq] at hs
  rcases Nat.lt_or_ge b (9+us.length) with hlt | hge
  ·obtain ⟨t,ht⟩:∃ t,us[b - 9]?=some t:=⟨_,List.getElem?_eq_getElem (by omega)⟩
   obtain ⟨e1,e2⟩:=hin b t hb ht
   exact absurd (e2.symm.trans hs.2) (hn t (List.mem_of_getElem? ht)).2.2.1
  ·obtain ⟨e1,e2⟩:=hout b hge
   rw [e2] at hs
   obtain ⟨e3,e4⟩:=hout (b+1) (by omega)
   rw [show b+1 - 9 - us.length=(b - 9 - us.length)+1 by omega] at e3 e4
   unfold isT
   rw [e3,e4]
   generalize b - 9 - us.length=i at hs⊢
   rcases hR with h | h<;>rw [h] at hs⊢
   ·match i,hs with
    | 0,hs=>simp at hs
    | i+1,hs=>simp at hs
   ·match i,hs with
    | 0,hs=>decide
    | 1,hs=>simp at hs
    | 2,hs=>simp at hs
    | i+3,hs=>simp at hs
 obtain ⟨m,hm⟩:∃ m,4*ts.length+8=m+8:=⟨_,rfl⟩
 obtain ⟨q,hq⟩:∃ q,ts.length=q+1:=⟨ts.length - 1,by omega⟩
 rw [← hts] at hp
 unfold parseR at hp
 split at hp
 ·cases hp
 ·rename_i d' a hdef
  split at hp
  ·cases hp
   unfold defR at hdef
   rw [show headR ts=.ok (([111],[]),5) by rw [hts];exact head_f _] at hdef
   dsimp only at hdef
   rw [show needsR ts (ts.length+1) 5=.ok ([],5) by rw [hts];exact needs_f _ _] at hdef
   dsimp only at hdef
   have hbody:bodyR ts (ts.length+1) 5=match stmtT ts 5 1 with
     | .error k=>.error k
     | .ok (s,a)=>match bodyR ts ts.length a with
      | .error k=>.error k
      | .ok (l,b)=>.ok (s :: l,b):=by
    conv=>lhs;unfold bodyR
    rw [if_neg (by rw [hts,show isT (hd9++(us++R)) 5 [103,105,118,101]=false from rfl,show isT (hd9++(us++R)) 5 [125]=false from rfl];decide)]
    cases stmtT ts 5 1 with
    | error k=>rfl
    | ok r=>
     obtain ⟨s,a⟩:=r
     dsimp only
     cases bodyR ts ts.length a<;>rfl
   have hst:stmtT ts 5 1=cellR ts 5 1:=by
    unfold stmtT
    rw [hm]
    conv=>lhs;unfold stmtR
    rw [if_pos (show isT ts 5 [91]=true by rw [hts];rfl)]
   have har:aroundT ts 5 1=.ok (.mk 1 (numW [48]) [] [] ((10:Nat):Int),8):=by
    unfold aroundT
    rw [hm,hts]
    exact around_f _ (m+4)
   rw [hbody,hst] at hdef
   unfold cellR at hdef
   rw [har] at hdef
   dsimp only at hdef
   rw [if_pos (show isT ts 8 [61]=true∨isT ts 8 [43,61]=true∨isT ts 8 [45,61]=true from .inl (by rw [hts];rfl))] at hdef
   cases hx:exprT ts (8+1) 1 with
   | error k=>rw [hx] at hdef;dsimp only at hdef;cases hdef
   | ok r=>
    obtain ⟨e,b⟩:=r
    rw [hx] at hdef
    dsimp only at hdef
    obtain ⟨hfe,hb9⟩:=(expr_fix NN _).1 _ _ _ _ _ (Nat.le_refl 9) hx
    cases hs:eatT ts b [59] with
    | error k=>rw [hs] at hdef;dsimp only at hdef;cases hdef
    | ok c=>
     rw [hs] at hdef
     dsimp only at hdef
     unfold eatT at hs
     split at hs
     ·rename_i hsb
      cases hs
      obtain ⟨s1,s2⟩:=hsemi b hb9 hsb
      rw [hq] at hdef
      have hb2:bodyR ts (q+1) (b+1)=.ok ([],b+1):=by
       unfold bodyR
       rw [if_pos (.inr s1)]
      rw [hb2] at hdef
      dsimp only at hdef
      have hgv:giveR ts (b+1)=.ok ([],b+1):=by
       unfold giveR
       rw [if_neg (by rw [s2];decide)]
      rw [hgv] at hdef
      dsimp only at hdef
      have hea:eatT ts (b+1) [125]=.ok (b+1+1):=by
       unfold eatT
       rw [if_pos s1]
      rw [hea] at hdef
      dsimp only at hdef
      rw [if_pos (show isT ts 8 [61]=true by rw [hts];rfl)] at hdef
      cases hdef
      exact ⟨e,_,_,by rw [show numW [48]=0 by kernel_rfl],hfe⟩
     ·cases hs
  ·cases hp
theorem code_f {d:Df} (h:OneSet d):∃ v,genD d=⟨0,0,[(1,0),(1,v),(5,0)],[]⟩:=by
 obtain ⟨e,p1,p2,rfl,hf⟩:=h
 refine ⟨exV blankP (lastE []) e,?_⟩
 have e0:∀ F,genE F (.mk 1 0 [] [] p1)=[(1,0)]:=fun F=>by
  unfold genE
  rw [if_pos (fixE_mk (by decide) (by decide) (by unfold fixL;rfl))]
  rfl
 have e1:∀ F,genE F e=[(1,exV blankP (lastE []) e)]:=fun F=>by
  cases e
  unfold genE
  rw [if_pos hf]
 have d0:declB ([.mk 2 [] [.mk 1 0 [] [] p1,e] 0 [] [] p2]:List St)=[]:=by
  unfold declB declS
  rw [if_neg (by decide)]
  unfold declB
  rfl
 have hL:locN ⟨[111],[],[],[.mk 2 [] [.mk 1 0 [] [] p1,e] 0 [] [] p2],[]⟩=[]:=by
  unfold locN
  rw [show (⟨[111],[],[],[.mk 2 [] [.mk 1 0 [] [] p1,e] 0 [] [] p2],[]⟩:Df).body=[.mk 2 [] [.mk 1 0 [] [] p1,e] 0 [] [] p2] from rfl,d0]
  rfl
 have hC:kindN 8 ⟨[111],[],[],[.mk 2 [] [.mk 1 0 [] [] p1,e] 0 [] [] p2],[]⟩=[]:=by
  unfold kindN
  rw [show (⟨[111],[],[],[.mk 2 [] [.mk 1 0 [] [] p1,e] 0 [] [] p2],[]⟩:Df).body=[.mk 2 [] [.mk 1 0 [] [] p1,e] 0 [] [] p2] from rfl,d0]
  rfl
 unfold genD
 rw [hL,hC]
 unfold genC
 dsimp only
 unfold needG giveG genB genS genB
 rw [if_neg (by decide),if_neg (by decide),if_neg (by decide),if_neg (by decide),if_pos rfl]
 unfold genL genL genL
 rw [e0,e1]
 rfl
end Go.Proofs.YtheanmadognhbaaGreatDoor
